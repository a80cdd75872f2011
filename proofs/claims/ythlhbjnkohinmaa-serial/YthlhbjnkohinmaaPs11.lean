/- The program's versions in memory: conflicts, and one version more. -/
import Derived.Test.YthlhbjnkohinmaaPs10
import Derived.Test.YthlhbjnkohinmaaOwn
import Derived.Deep.AppendLies
namespace Go.Proofs.Ythlhbjnkohinmaa
open Go.RowKit

set_option maxRecDepth 20000 in
set_option maxHeartbeats 1000000 in
theorem conflicts_any (b o : Nat) (X : PEng) (kv : Nat → Value) (S : PSes) (w : World) (h : StoreAt w b o X kv) :
    Calls Try.prog 53 #[.pointer (some ⟨b, o, none⟩), .agg (wrsCells S.wr S.tm).toArray, .int .i64 S.snap] w fun e w' => e = .returned (.bool (clash X S)) ∧ w.grownBy w' none := by
  have HL := hid h.last
  have hbl : b < w.heap.size := World.block_lt_of_cell? w _ h.latest
  have hbz : b ≠ w.heap.size := by omega
  have HM : Hid (∀ c, c < 60 → (w.alloc (.cells (wrsCells S.wr S.tm).toArray 79)).cell? ⟨w.heap.size, c * 4, none⟩ = some (.bool (wMade (S.wr c)))) := hid (fun c hc => by
    rw [cell_of_row _ _ _ _ _ _ (heap_alloc_new w _)]
    simpa using (wrsCells_at S.wr S.tm hc).1)
  clear h
  obtain ⟨r, hr⟩ : ∃ r, r = clash X S := ⟨_, rfl⟩
  rw [← hr]
  have HR := hid hr
  obtain ⟨sn, hsn⟩ : ∃ sn, sn = S.snap := ⟨_, rfl⟩
  rw [← hsn]
  have HSN := hid hsn
  obtain ⟨ca, hca⟩ : ∃ ca, ca = (wrsCells S.wr S.tm).toArray := ⟨_, rfl⟩
  rw [← hca] at HM ⊢
  clear hr hsn hca
  go_enter Try.func53, Try.ntmps53
  go_wp2_with fail
  go_loop [7] (fun t => ∃ k : Nat, k ≤ 60 ∧ t = .int .i64 k ∧ ∀ j, j < k → ((S.wr j).isSome && decide (X.last j > sn)) = false) (fun t => 60 - (intOf t).toNat)
  case atStart => exact ⟨0, by omega, rfl, fun j h => by omega⟩
  case round =>
    obtain ⟨k, hk, rfl, hno⟩ := hrel
    have HN := hid hno
    clear hno
    by_cases hlt : k < 60
    · have d0 := HM.out k hlt
      have d1 : w.cell? ⟨b, o + 1 + k * 2, none⟩ = some (.int .i64 (X.last k)) := HL.out k hlt
      obtain ⟨ls, hls⟩ : ∃ ls, ls = X.last k := ⟨_, rfl⟩
      rw [← hls] at d1
      have HLS := hid hls
      clear hls
      cases hm : wMade (S.wr k) with
      | true =>
        rw [hm] at d0
        by_cases hgt : ls > sn
        · have HU : Hid (r = true) := hid (by
            rw [HR.out]
            unfold clash
            rw [List.any_eq_true]
            refine ⟨k, by simpa using hlt, ?_⟩
            have h1 : (S.wr k).isSome = true := hm
            rw [h1, ← HLS.out, ← HSN.out]
            simpa using hgt)
          clear hm
          go_wp2
          go_ret
          exact ⟨by rw [HU.out]; rfl, grown_alloc (grown_refl _ _) _⟩
        · have HN' : Hid (∀ j, j < k + 1 → ((S.wr j).isSome && decide (X.last j > sn)) = false) := hid (by
            intro j hj
            by_cases e : j = k
            · subst e
              rw [← HLS.out]
              simp only [Bool.and_eq_false_iff]
              right
              simpa using hgt
            · exact HN.out j (by omega))
          clear hm
          go_wp2
          go_round
          case rel => exact ⟨k + 1, by omega, by go_num, HN'.out⟩
          case measure => simp [intOf]; omega
      | false =>
        rw [hm] at d0
        have HN' : Hid (∀ j, j < k + 1 → ((S.wr j).isSome && decide (X.last j > sn)) = false) := hid (by
          intro j hj
          by_cases e : j = k
          · subst e
            have h1 : (S.wr j).isSome = false := hm
            rw [h1]; rfl
          · exact HN.out j (by omega))
        clear hm
        go_wp2
        go_round
        case rel => exact ⟨k + 1, by omega, by go_num, HN'.out⟩
        case measure => simp [intOf]; omega
    · have HU : Hid (r = false) := hid (by
        rw [HR.out]
        unfold clash
        rw [List.any_eq_false]
        intro j hj
        have := HN.out j (by have : j < 60 := by simpa using hj
                             omega)
        rw [← HSN.out, this]
        simp)
      go_wp2
      go_ret
      exact ⟨by rw [HU.out]; rfl, grown_alloc (grown_refl _ _) _⟩

theorem Try.info108 : (Try.prog.info? 108).map (fun i => (i.zero, i.size, i.bytes)) = some (some (.agg #[.int .i64 0, .bool false, .int .i64 0]), 3, 24) := by kernel_rfl

set_option maxRecDepth 20000 in
set_option maxHeartbeats 2000000 in
theorem add_core (b o : Nat) (l : List (Int × Option Int)) (st : Int) (q : Option Int) (a : Option Addr) (cp : Nat) (cs : Array Value) (w : World) (hl : (l.length + 1) * 24 ≤ 140737488355328)
    (hb : w.heap[b]? = some (.cells cs 93 (0, 0))) (ho : o + 1 < cs.size) (hc : cs[o + 1]? = some (.slice a l.length cp)) (hrow : w.ownsRow 0 108 3 (.slice a l.length cp) l.length (hvCells l)) :
    Calls Try.prog 72 #[.pointer (some ⟨b, o, none⟩), .agg #[.int .i64 st, .bool q.isSome, .int .i64 (q.getD 0)]] w fun e w' => e = .returned (.tuple #[]) ∧
      ∃ g3 c' w3, ((Value.slice a l.length cp).ownBlock = some g3 ∨ w.heap.size ≤ g3) ∧ w3.ownsRow 0 108 3 (.slice (some ⟨g3, 0, none⟩) (l.length + 1) c') (l.length + 1) (hvCells (l ++ [(st, q)])) ∧ w3.heap[b]? = some (.cells (cs.setIfInBounds o (.int .i64 st)) 93 (0, 0)) ∧
        w' = w3.setCell ⟨b, o + 1, none⟩ (.slice (some ⟨g3, 0, none⟩) (l.length + 1) c') ∧ Fr (b :: (Value.slice a l.length cp).ownBlock.toList) w w3 := by
  obtain ⟨i0, hi0, hz0, hz1, hz2⟩ := info_parts Try.info108
  have hbl := lt_of_block hb
  have hbz : b ≠ w.heap.size := by omega
  have hne : (Value.slice a l.length cp).ownBlock ≠ some b := own_ne_ty hrow hb (by decide)
  have k0 : w.cell? ⟨b, o, none⟩ = some (cs[o]'(by omega)) := by rw [cell_of_row _ _ _ _ _ _ hb, Array.getElem?_eq_getElem (by omega)]
  have k1 : w.cell? ⟨b, o + 1, none⟩ = some (.slice a l.length cp) := by rw [cell_of_row _ _ _ _ _ _ hb]; exact hc
  have z0 := frozen_blk hb o
  have z1 := frozen_blk hb (o + 1)
  generalize cs[o]'_ = u0 at k0
  obtain ⟨fl, hfl⟩ : ∃ fl, fl = q.isSome := ⟨_, rfl⟩
  obtain ⟨vl, hvl⟩ : ∃ vl, vl = q.getD 0 := ⟨_, rfl⟩
  have HHV : Hid (hvCells (l ++ [(st, q)]) = hvCells l ++ [.int .i64 st, .bool fl, .int .i64 vl]) := hid (by rw [hvCells_snoc, hfl, hvl])
  rw [← hfl, ← hvl]
  have HB := hid hb
  have hbW : (w.setCell ⟨b, o, none⟩ (.int .i64 st)).heap[b]? = some (.cells (cs.setIfInBounds o (.int .i64 st)) 93 (0, 0)) := blk_setCell hb o _
  have HBW := hid hbW
  have hrow0 : (w.setCell ⟨b, o, none⟩ (.int .i64 st)).ownsRow 0 108 3 (.slice a l.length cp) l.length (hvCells l) := ownsRow_setCell_other hrow hne _
  have hszW : (w.setCell ⟨b, o, none⟩ (.int .i64 st)).heap.size = w.heap.size := by simp [World.setCell]
  have j1 : (w.setCell ⟨b, o, none⟩ (.int .i64 st)).cell? ⟨b, o + 1, none⟩ = some (.slice a l.length cp) := by rw [World.cell?_setCell_other _ _ _ _ (by intro e; simp at e)]; exact k1
  have HFW : Hid (Fr [b] w (w.setCell ⟨b, o, none⟩ (.int .i64 st))) := hid ((Fr.refl [b] w).set (.inl (by simp)) _)
  clear hfl hvl hb hbW hc hrow
  go_enter Try.func72, Try.ntmps72
  go_wp2_with fail
  generalize w.setCell ⟨b, o, none⟩ (.int .i64 st) = W0 at HBW hrow0 hszW j1 HFW ⊢
  rw [← hszW]
  have hbz0 : b ≠ W0.heap.size := by omega
  have hbz1 : b < W0.heap.size := by omega
  have HSZ := hid hszW
  clear hszW k0 k1 z0 z1 hbl hbz
  go_region_law (
    refine step_append_lies _ rfl (.tmp 13) (.tmp 15) 86 rfl 0 108 i0 (.agg #[.int .i64 0, .bool false, .int .i64 0]) 3 24 Try.underlying86 hi0 hz0 hz1 hz2 rfl (by decide) (.slice a l.length cp) l.length (hvCells l) (by simp [Act.eval]) (own_heap ((hrow0.alloc _).alloc _) rfl) ⟨W0.heap.size + 1, 0, none⟩ 1 1 [.int .i64 st, .bool fl, .int .i64 vl] (by simp [Act.eval]) rfl (fun j u hj => by
      have := news_at1 (w := W0.alloc (.cells #[.int .i64 st, .bool fl, .int .i64 vl] 108)) (t := 108) hj
      simpa using this) (fun u hu => by simp at hu; rcases hu with h | h | h <;> subst h <;> rfl) (by decide) (by unfold maxLen; omega) hl (Nat.zero_le _) _ rfl (fun g3 c3 w3 hown3 hg3 hva3 hvl3 => ?_)
    have hb3 : w3.heap[b]? = some (.cells (cs.setIfInBounds o (.int .i64 st)) 93 (0, 0)) := (hg3.block b (by simp; omega) (fun e => hne e.symm)).trans ((Below.heap_alloc _ _ _ (by simp; omega)).trans ((Below.heap_alloc _ _ _ hbz1).trans HBW.out))
    have d3 : w3.cell? ⟨b, o + 1, none⟩ = some (.slice a l.length cp) := by
      rw [cell_of_row _ _ _ _ _ _ hb3, ← j1, cell_of_row _ _ _ _ _ _ HBW.out]
    have z3 : w3.frozen? ⟨b, o + 1, none⟩ = false := frozen_blk hb3 _)
  all_goals
    have HFIN : Hid (Fr (b :: (Value.slice a l.length cp).ownBlock.toList) w w3) := hid (by
      have a1 := (((Fr.refl [] W0).alloc (.cells #[.int .i64 st, .bool fl, .int .i64 vl] 108)).drewN 1).alloc (.cells #[.int .i64 st, .bool fl, .int .i64 vl] 108)
      exact (HFW.out.mono (fun k hk => .inl (by simp at hk ⊢; exact .inl hk))).trans ((a1.mono (fun k hk => by cases hk)).trans ((Fr.grown hg3).mono (fun k hk => .inl (by simp at hk ⊢; exact .inr hk)))))
    have HOW := hid hown3
    have HB3 := hid hb3
    have HVA := hid hva3
    clear hown3 hg3 hb3 hva3
    go_wp2_with fail
    go_returns
    refine ⟨rfl, g3, c3, w3, ?_, by rw [HHV.out]; exact HOW.out, HB3.out, rfl, HFIN.out⟩
    rcases HVA.out with h | h
    · exact .inl h
    · exact .inr (by have := HSZ.out; rw [h]; simp; omega)

end Go.Proofs.Ythlhbjnkohinmaa
