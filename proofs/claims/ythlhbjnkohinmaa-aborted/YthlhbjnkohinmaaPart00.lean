import Derived.Test.YthlhbjnkohinmaaBytes
import Derived.Test.YthlhbjnkohinmaaRd
import Derived.Test.YthlhbjnkohinmaaRows
import Derived.ProofKit
import Derived.OpenShut
import Derived.ShutString
import Derived.ChangeOld
import Derived.Below
import Derived.SizedLaws
import Derived.Deep.Slices
import Derived.Test.YthlhbjnkohinmaaPs10
import Derived.Test.YthlhbjnkohinmaaOwn
import Derived.Deep.AppendLies
import Derived.Test.YthlhbjnkohinmaaPmem
/- Scripts of acts that came in. -/
namespace Go.Proofs.Ythlhbjnkohinmaa
open Go.RowKit

/-- An act in the script. -/
def ActAt (w : World) (sb o : Nat) (k n c : Int) (s : ByteArray) : Prop :=
  w.cell? ⟨sb, o, none⟩ = some (.int .i64 k) ∧ w.cell? ⟨sb, o + 1, none⟩ = some (.int .i64 n) ∧ w.cell? ⟨sb, o + 2, none⟩ = some (.int .i64 c) ∧ w.cell? ⟨sb, o + 3, none⟩ = some (.string s) ∧ s.size ≤ maxLen

/-- What is known of a script that came in. -/
def IsScript (w : World) (a : Option Addr) (len : Nat) : Prop := len = 0 ∨ ∃ sb off, a = some ⟨sb, off, none⟩ ∧ sb < w.heap.size ∧ ∀ t, t < len → ∃ k n c s, ActAt w sb (off + t * 4) k n c s

end Go.Proofs.Ythlhbjnkohinmaa

/- A script of acts that came in, opened. -/
namespace Go.Proofs.Ythlhbjnkohinmaa
open Go.ChangeShapes Go.WideShapes Go.ChangeAt Go.RowKit Go.Deep

theorem Try.own : ownKnob Try.prog.godebug = none := by kernel_rfl
theorem Try.laidOut : laidOutB Try.prog = true := by kernel_rfl

theorem Try.bytes33 : Try.prog.bytesOf 33 = 40 := by kernel_rfl
theorem Try.cells33 : Try.prog.cellsOf 33 = 4 := by kernel_rfl
theorem Try.cells3 : Try.prog.cellsOf 3 = 1 := by kernel_rfl
theorem Try.cells9 : Try.prog.cellsOf 9 = 1 := by kernel_rfl

theorem list4 {α : Type} {l : List α} (h : l.length = 4) : ∃ a b c d, l = [a, b, c, d] := by
  match l, h with
  | [a, b, c, d], _ => exact ⟨a, b, c, d, rfl⟩

/-- A script that came in, opened. -/
theorem script_open {H : Type} {enc : TypeId × Value → H} {w : World} {base : Nat} {spare : Nat → Bool} {held : Bool} {fuel : Nat} {a : Option Addr} {len cap : Nat} {x : DataW H × List MemPlace}
    (h : DataW.trod enc Try.prog w base spare held fuel 22 [.slice a len cap] = some x) :
    IsScript w a len ∧ ∃ elems sp, (x.1 = .nil ∧ len = 0) ∨ (x.1 = .slice elems sp ∧ elems.length = len) := by
  rcases open_slice Try.underlying22 h with ⟨hcs, hx⟩ | ⟨ad, l, c, m, n, D, Pl, hcs, hb, hl, hm, hmm, hx, hel⟩
  · simp at hcs
    obtain ⟨rfl, rfl, rfl⟩ := hcs
    exact ⟨.inl rfl, [], [], .inl ⟨by rw [hx], rfl⟩⟩
  · simp at hcs
    obtain ⟨rfl, rfl, rfl⟩ := hcs
    refine ⟨?_, _, _, .inr ⟨by rw [hx], by simp⟩⟩
    by_cases h0 : len = 0
    · exact .inl h0
    right
    have hlm : len ≤ m := by rw [hmm]; split <;> omega
    have each : ∀ i, i < m → ∃ k n c s, w.cell? (ad.add (i * 4)) = some (.int .i64 k) ∧ w.cell? (ad.add (i * 4 + 1)) = some (.int .i64 n) ∧ w.cell? (ad.add (i * 4 + 2)) = some (.int .i64 c) ∧ w.cell? (ad.add (i * 4 + 3)) = some (.string s) ∧ s.size ≤ maxLen := by
      intro i hi
      obtain ⟨cs', h1, h2⟩ := hel i hi
      rw [Try.cells33] at h1
      obtain ⟨_, hlen, hcell⟩ := World.cells?_some h1
      obtain ⟨xs, k, hk, hxy, _, hxl, hf⟩ := DataW.trod_struct Try.underlying33 h2
      obtain ⟨y0, y1, y2, y3, rfl⟩ := list4 (show xs.length = 4 from hxl)
      obtain ⟨v0, v1, v2, v3, rfl⟩ := list4 hlen
      have g0 := hf 0 _ rfl
      have g1 := hf 1 _ rfl
      have g2 := hf 2 _ rfl
      have g3 := hf 3 _ rfl
      simp [Try.cells3, Try.cells9] at g0 g1 g2 g3
      obtain ⟨n0, q0, _, _⟩ := DataW.trod_int Try.underlying3 g0
      obtain ⟨n1, q1, _, _⟩ := DataW.trod_int Try.underlying3 g1
      obtain ⟨n2, q2, _, _⟩ := DataW.trod_int Try.underlying3 g2
      obtain ⟨s, q3, _, w4⟩ := DataW.trod_string Try.underlying9 g3
      simp at q0 q1 q2 q3
      subst q0 q1 q2 q3
      have e0 := hcell 0 (by omega)
      have e1 := hcell 1 (by omega)
      have e2 := hcell 2 (by omega)
      have e3 := hcell 3 (by omega)
      rw [add_add] at e0 e1 e2 e3
      exact ⟨n0, n1, n2, s, by simpa using e0, by simpa using e1, by simpa using e2, by simpa using e3, w4⟩
    obtain ⟨b, off, spot⟩ := ad
    obtain ⟨_, _, _, _, hc0, _⟩ := each 0 (by omega)
    have hspot : spot = none := by simpa [Addr.add] using World.cell?_spot hc0
    subst hspot
    have hadd : ∀ j, (⟨b, off, none⟩ : Addr).add j = ⟨b, off + j, none⟩ := by intro j; unfold Addr.add; split <;> simp_all
    refine ⟨b, off, rfl, ?_, ?_⟩
    · exact World.block_lt_of_cell? w _ hc0
    · intro t ht
      obtain ⟨k, n, c, s, e0, e1, e2, e3, w4⟩ := each t (by omega)
      rw [hadd] at e0 e1 e2 e3
      exact ⟨k, n, c, s, e0, e1, e2, e3, w4⟩

end Go.Proofs.Ythlhbjnkohinmaa

/- Texts, numbers and scripts that came in. -/
namespace Go.Proofs.Ythlhbjnkohinmaa
open Go.ChangeShapes Go.WideShapes Go.ChangeAt Go.RowKit Go.Deep

/-- A script that came in among other arguments. -/
theorem script_sized {H : Type} {enc : TypeId × Value → H} {W : World} {ts : List TypeId} {ds : List (DataW H)} {a : Option Addr} {len cap : Nat} {d : DataW H} {p : List MemPlace} {j : Nat}
    (h : DataW.Trod enc Try.prog W 0 (fun _ => true) true 22 (.slice a len cap) d p) (hsz : (DataW.weightsEach Try.prog ts ds).all (· ≤ reachBytes) = true) (ht : ts[j]? = some 22) (hd : ds[j]? = some d) : IsScript W a len ∧ len * 40 ≤ 140737488351232 := by
  obtain ⟨fuel, hf⟩ := h
  obtain ⟨hs, elems, sp, he | he⟩ := script_open (by simpa [Value.cells] using hf)
  · exact ⟨hs, by rw [he.2]; omega⟩
  · refine ⟨hs, ?_⟩
    obtain ⟨rfl, hel⟩ := he
    have := sized_slice hsz (j := j) (t := 22) (e := 33) ht hd Try.underlying22
    rw [Try.bytes33] at this
    simp only [reachBytes] at this
    omega
/-- A text that came in. -/
theorem text_sized {H : Type} {enc : TypeId × Value → H} {W : World} {s : ByteArray} {d : DataW H} {p : List MemPlace} (h : DataW.Trod enc Try.prog W 0 (fun _ => true) true 9 (.string s) d p) : s.size ≤ maxLen := by
  obtain ⟨fuel, hf⟩ := h
  obtain ⟨s', q, _, w4⟩ := DataW.trod_string Try.underlying9 (by simpa [Value.cells] using hf)
  simp at q
  rw [q]
  exact w4
/-- A number that came in. -/
theorem int_sized {H : Type} {enc : TypeId × Value → H} {W : World} {n : Int} {d : DataW H} {p : List MemPlace} (h : DataW.Trod enc Try.prog W 0 (fun _ => true) true 3 (.int .i64 n) d p) : -9223372036854775808 ≤ n ∧ n ≤ 9223372036854775807 := by
  obtain ⟨fuel, hf⟩ := h
  obtain ⟨n', q, _, hw⟩ := DataW.trod_int Try.underlying3 (by simpa [Value.cells] using hf)
  simp at q
  subst q
  simp [Lit.wf, IntKind.min, IntKind.max, IntKind.signed, IntKind.bits] at hw
  omega

end Go.Proofs.Ythlhbjnkohinmaa

/- The program's versions in memory: conflicts, and one version more. -/
namespace Go.Proofs.Ythlhbjnkohinmaa
open Go.RowKit

set_option maxRecDepth 20000 in
set_option maxHeartbeats 1000000 in
theorem conflicts_any (b o : Nat) (X : PEng) (kv : Nat → Value) (S : PSes) (w : World) (h : StoreAt w b o X kv) :
    Calls Try.prog 53 #[.pointer (some ⟨b, o, none⟩), .agg (wrsCells S.wr S.tm).toArray, .int .i64 S.snap] w fun e w' => e = .returned (.bool (clash X S)) ∧ w.grownBy w' none := by
  have HL := hid h.last
  have hbl : b < w.heap.size := World.block_lt_of_cell? w _ h.latest
  have hbz : b ≠ w.heap.size := by omega
  have HM : Hid (∀ c, c < 60 → (w.alloc (.cells (wrsCells S.wr S.tm).toArray 79)).cell? ⟨w.heap.size, c * 4, none⟩ = some (.bool (wMade (S.wr c)))) := hid (fun c hc => by
    rw [cell_of_row _ _ _ _ _ _ (heap_alloc_new w _)]
    simpa using (wrsCells_at S.wr S.tm hc).1)
  clear h
  obtain ⟨r, hr⟩ : ∃ r, r = clash X S := ⟨_, rfl⟩
  rw [← hr]
  have HR := hid hr
  obtain ⟨sn, hsn⟩ : ∃ sn, sn = S.snap := ⟨_, rfl⟩
  rw [← hsn]
  have HSN := hid hsn
  obtain ⟨ca, hca⟩ : ∃ ca, ca = (wrsCells S.wr S.tm).toArray := ⟨_, rfl⟩
  rw [← hca] at HM ⊢
  clear hr hsn hca
  go_enter Try.func53, Try.ntmps53
  go_wp2_with fail
  go_loop [7] (fun t => ∃ k : Nat, k ≤ 60 ∧ t = .int .i64 k ∧ ∀ j, j < k → ((S.wr j).isSome && decide (X.last j > sn)) = false) (fun t => 60 - (intOf t).toNat)
  case atStart => exact ⟨0, by omega, rfl, fun j h => by omega⟩
  case round =>
    obtain ⟨k, hk, rfl, hno⟩ := hrel
    have HN := hid hno
    clear hno
    by_cases hlt : k < 60
    · have d0 := HM.out k hlt
      have d1 : w.cell? ⟨b, o + 1 + k * 2, none⟩ = some (.int .i64 (X.last k)) := HL.out k hlt
      obtain ⟨ls, hls⟩ : ∃ ls, ls = X.last k := ⟨_, rfl⟩
      rw [← hls] at d1
      have HLS := hid hls
      clear hls
      cases hm : wMade (S.wr k) with
      | true =>
        rw [hm] at d0
        by_cases hgt : ls > sn
        · have HU : Hid (r = true) := hid (by
            rw [HR.out]
            unfold clash
            rw [List.any_eq_true]
            refine ⟨k, by simpa using hlt, ?_⟩
            have h1 : (S.wr k).isSome = true := hm
            rw [h1, ← HLS.out, ← HSN.out]
            simpa using hgt)
          clear hm
          go_wp2
          go_ret
          exact ⟨by rw [HU.out]; rfl, grown_alloc (grown_refl _ _) _⟩
        · have HN' : Hid (∀ j, j < k + 1 → ((S.wr j).isSome && decide (X.last j > sn)) = false) := hid (by
            intro j hj
            by_cases e : j = k
            · subst e
              rw [← HLS.out]
              simp only [Bool.and_eq_false_iff]
              right
              simpa using hgt
            · exact HN.out j (by omega))
          clear hm
          go_wp2
          go_round
          case rel => exact ⟨k + 1, by omega, by go_num, HN'.out⟩
          case measure => simp [intOf]; omega
      | false =>
        rw [hm] at d0
        have HN' : Hid (∀ j, j < k + 1 → ((S.wr j).isSome && decide (X.last j > sn)) = false) := hid (by
          intro j hj
          by_cases e : j = k
          · subst e
            have h1 : (S.wr j).isSome = false := hm
            rw [h1]; rfl
          · exact HN.out j (by omega))
        clear hm
        go_wp2
        go_round
        case rel => exact ⟨k + 1, by omega, by go_num, HN'.out⟩
        case measure => simp [intOf]; omega
    · have HU : Hid (r = false) := hid (by
        rw [HR.out]
        unfold clash
        rw [List.any_eq_false]
        intro j hj
        have := HN.out j (by have : j < 60 := by simpa using hj
                             omega)
        rw [← HSN.out, this]
        simp)
      go_wp2
      go_ret
      exact ⟨by rw [HU.out]; rfl, grown_alloc (grown_refl _ _) _⟩

theorem Try.info108 : (Try.prog.info? 108).map (fun i => (i.zero, i.size, i.bytes)) = some (some (.agg #[.int .i64 0, .bool false, .int .i64 0]), 3, 24) := by kernel_rfl

set_option maxRecDepth 20000 in
set_option maxHeartbeats 2000000 in
theorem add_core (b o : Nat) (l : List (Int × Option Int)) (st : Int) (q : Option Int) (a : Option Addr) (cp : Nat) (cs : Array Value) (w : World) (hl : (l.length + 1) * 24 ≤ 140737488355328)
    (hb : w.heap[b]? = some (.cells cs 93 (0, 0))) (ho : o + 1 < cs.size) (hc : cs[o + 1]? = some (.slice a l.length cp)) (hrow : w.ownsRow 0 108 3 (.slice a l.length cp) l.length (hvCells l)) :
    Calls Try.prog 72 #[.pointer (some ⟨b, o, none⟩), .agg #[.int .i64 st, .bool q.isSome, .int .i64 (q.getD 0)]] w fun e w' => e = .returned (.tuple #[]) ∧
      ∃ g3 c' w3, ((Value.slice a l.length cp).ownBlock = some g3 ∨ w.heap.size ≤ g3) ∧ w3.ownsRow 0 108 3 (.slice (some ⟨g3, 0, none⟩) (l.length + 1) c') (l.length + 1) (hvCells (l ++ [(st, q)])) ∧ w3.heap[b]? = some (.cells (cs.setIfInBounds o (.int .i64 st)) 93 (0, 0)) ∧
        w' = w3.setCell ⟨b, o + 1, none⟩ (.slice (some ⟨g3, 0, none⟩) (l.length + 1) c') ∧ Fr (b :: (Value.slice a l.length cp).ownBlock.toList) w w3 := by
  obtain ⟨i0, hi0, hz0, hz1, hz2⟩ := info_parts Try.info108
  have hbl := lt_of_block hb
  have hbz : b ≠ w.heap.size := by omega
  have hne : (Value.slice a l.length cp).ownBlock ≠ some b := own_ne_ty hrow hb (by decide)
  have k0 : w.cell? ⟨b, o, none⟩ = some (cs[o]'(by omega)) := by rw [cell_of_row _ _ _ _ _ _ hb, Array.getElem?_eq_getElem (by omega)]
  have k1 : w.cell? ⟨b, o + 1, none⟩ = some (.slice a l.length cp) := by rw [cell_of_row _ _ _ _ _ _ hb]; exact hc
  have z0 := frozen_blk hb o
  have z1 := frozen_blk hb (o + 1)
  generalize cs[o]'_ = u0 at k0
  obtain ⟨fl, hfl⟩ : ∃ fl, fl = q.isSome := ⟨_, rfl⟩
  obtain ⟨vl, hvl⟩ : ∃ vl, vl = q.getD 0 := ⟨_, rfl⟩
  have HHV : Hid (hvCells (l ++ [(st, q)]) = hvCells l ++ [.int .i64 st, .bool fl, .int .i64 vl]) := hid (by rw [hvCells_snoc, hfl, hvl])
  rw [← hfl, ← hvl]
  have HB := hid hb
  have hbW : (w.setCell ⟨b, o, none⟩ (.int .i64 st)).heap[b]? = some (.cells (cs.setIfInBounds o (.int .i64 st)) 93 (0, 0)) := blk_setCell hb o _
  have HBW := hid hbW
  have hrow0 : (w.setCell ⟨b, o, none⟩ (.int .i64 st)).ownsRow 0 108 3 (.slice a l.length cp) l.length (hvCells l) := ownsRow_setCell_other hrow hne _
  have hszW : (w.setCell ⟨b, o, none⟩ (.int .i64 st)).heap.size = w.heap.size := by simp [World.setCell]
  have j1 : (w.setCell ⟨b, o, none⟩ (.int .i64 st)).cell? ⟨b, o + 1, none⟩ = some (.slice a l.length cp) := by rw [World.cell?_setCell_other _ _ _ _ (by intro e; simp at e)]; exact k1
  have HFW : Hid (Fr [b] w (w.setCell ⟨b, o, none⟩ (.int .i64 st))) := hid ((Fr.refl [b] w).set (.inl (by simp)) _)
  clear hfl hvl hb hbW hc hrow
  go_enter Try.func72, Try.ntmps72
  go_wp2_with fail
  generalize w.setCell ⟨b, o, none⟩ (.int .i64 st) = W0 at HBW hrow0 hszW j1 HFW ⊢
  rw [← hszW]
  have hbz0 : b ≠ W0.heap.size := by omega
  have hbz1 : b < W0.heap.size := by omega
  have HSZ := hid hszW
  clear hszW k0 k1 z0 z1 hbl hbz
  go_region_law (
    refine step_append_lies _ rfl (.tmp 13) (.tmp 15) 86 rfl 0 108 i0 (.agg #[.int .i64 0, .bool false, .int .i64 0]) 3 24 Try.underlying86 hi0 hz0 hz1 hz2 rfl (by decide) (.slice a l.length cp) l.length (hvCells l) (by simp [Act.eval]) (own_heap ((hrow0.alloc _).alloc _) rfl) ⟨W0.heap.size + 1, 0, none⟩ 1 1 [.int .i64 st, .bool fl, .int .i64 vl] (by simp [Act.eval]) rfl (fun j u hj => by
      have := news_at1 (w := W0.alloc (.cells #[.int .i64 st, .bool fl, .int .i64 vl] 108)) (t := 108) hj
      simpa using this) (fun u hu => by simp at hu; rcases hu with h | h | h <;> subst h <;> rfl) (by decide) (by unfold maxLen; omega) hl (Nat.zero_le _) _ rfl (fun g3 c3 w3 hown3 hg3 hva3 hvl3 => ?_)
    have hb3 : w3.heap[b]? = some (.cells (cs.setIfInBounds o (.int .i64 st)) 93 (0, 0)) := (hg3.block b (by simp; omega) (fun e => hne e.symm)).trans ((Below.heap_alloc _ _ _ (by simp; omega)).trans ((Below.heap_alloc _ _ _ hbz1).trans HBW.out))
    have d3 : w3.cell? ⟨b, o + 1, none⟩ = some (.slice a l.length cp) := by
      rw [cell_of_row _ _ _ _ _ _ hb3, ← j1, cell_of_row _ _ _ _ _ _ HBW.out]
    have z3 : w3.frozen? ⟨b, o + 1, none⟩ = false := frozen_blk hb3 _)
  all_goals
    have HFIN : Hid (Fr (b :: (Value.slice a l.length cp).ownBlock.toList) w w3) := hid (by
      have a1 := (((Fr.refl [] W0).alloc (.cells #[.int .i64 st, .bool fl, .int .i64 vl] 108)).drewN 1).alloc (.cells #[.int .i64 st, .bool fl, .int .i64 vl] 108)
      exact (HFW.out.mono (fun k hk => .inl (by simp at hk ⊢; exact .inl hk))).trans ((a1.mono (fun k hk => by cases hk)).trans ((Fr.grown hg3).mono (fun k hk => .inl (by simp at hk ⊢; exact .inr hk)))))
    have HOW := hid hown3
    have HB3 := hid hb3
    have HVA := hid hva3
    clear hown3 hg3 hb3 hva3
    go_wp2_with fail
    go_returns
    refine ⟨rfl, g3, c3, w3, ?_, by rw [HHV.out]; exact HOW.out, HB3.out, rfl, HFIN.out⟩
    rcases HVA.out with h | h
    · exact .inl h
    · exact .inr (by have := HSZ.out; rw [h]; simp; omega)

end Go.Proofs.Ythlhbjnkohinmaa

/- The program's versions in memory: a commit. -/
namespace Go.Proofs.Ythlhbjnkohinmaa
open Go.RowKit

/-- One version more of a cell. -/
def PEng.addV (X : PEng) (c : Nat) (p : Int × Option Int) : PEng := { X with last := upd X.last c p.1, hist := upd X.hist c (X.hist c ++ [p]) }

theorem range_map_upd {α : Type} (f : Nat → α) (c : Nat) (v : α) (n : Nat) : (List.range n).map (upd f c v) = ((List.range n).map f).set c v := by
  apply List.ext_getElem
  · simp
  intro i h1 h2
  simp only [List.getElem_map, List.getElem_range, List.getElem_set]
  by_cases e : c = i
  · subst e; simp [upd]
  · rw [if_neg e, upd_ne _ _ _ (fun h => e h.symm)]

theorem PAt.of_block {w : World} {x : Nat} {X : PEng} {kv : Nat → Value} {cs : Array Value} (h : PAt w x X kv) (hb : w.heap[x]? = some (.cells cs 93 (0, 0))) {w' : World} {c : Nat} (hc : c < 60) (st : Int) (nv : Value)
    (hb' : w'.heap[x]? = some (.cells ((cs.setIfInBounds (1955 + 1 + c * 2) (.int .i64 st)).setIfInBounds (1955 + 1 + c * 2 + 1) nv) 93 (0, 0))) (p : Option Int) :
    PAt w' x (X.addV c (st, p)) (upd kv c nv) := by
  have e0 : ∀ i v, w.cell? ⟨x, i, none⟩ = some v → cs[i]? = some v := fun i v hv => by rw [cell_of_row _ _ _ _ _ _ hb] at hv; exact hv
  have far : ∀ i v, i ≠ 1955 + 1 + c * 2 → i ≠ 1955 + 1 + c * 2 + 1 → w.cell? ⟨x, i, none⟩ = some v → w'.cell? ⟨x, i, none⟩ = some v := fun i v h1 h2 hv => by
    rw [cell_of_row _ _ _ _ _ _ hb', Array.getElem?_setIfInBounds_ne (fun e => h2 e.symm), Array.getElem?_setIfInBounds_ne (fun e => h1 e.symm)]
    exact e0 i v hv
  have hsz : 1955 + 1 + c * 2 + 1 < cs.size := (Array.getElem?_eq_some_iff.mp (e0 _ _ (h.store.kept c hc))).1
  refine ⟨⟨_, hb'⟩, far _ _ (by omega) (by omega) h.rules, far _ _ (by omega) (by omega) h.room, far _ _ (by omega) (by omega) h.opened, fun k hk => ?_, ⟨far _ _ (by omega) (by omega) h.store.latest, fun d hd => ?_, fun d hd => ?_⟩⟩
  · have hs := h.ses k hk
    exact ⟨far _ _ (by omega) (by omega) hs.num, far _ _ (by omega) (by omega) hs.snap, far _ _ (by omega) (by omega) hs.cnt, fun d hd => far _ _ (by omega) (by omega) (hs.made d hd), fun d hd => far _ _ (by omega) (by omega) (hs.filled d hd), fun d hd => far _ _ (by omega) (by omega) (hs.val d hd), fun d hd => far _ _ (by omega) (by omega) (hs.tm d hd), far _ _ (by omega) (by omega) hs.mks, hs.ok⟩
  · show World.cell? _ _ = some (Value.int .i64 (upd X.last c st d))
    by_cases e : d = c
    · subst e
      rw [upd_same, cell_of_row _ _ _ _ _ _ hb', Array.getElem?_setIfInBounds_ne (by omega), Array.getElem?_setIfInBounds_self_of_lt (by omega)]
    · rw [upd_ne _ _ _ e]
      exact far _ _ (by omega) (by omega) (h.store.last d hd)
  · by_cases e : d = c
    · subst e
      rw [upd_same, cell_of_row _ _ _ _ _ _ hb', Array.getElem?_setIfInBounds_self_of_lt (by simp; omega)]
    · rw [upd_ne _ _ _ e]
      exact far _ _ (by omega) (by omega) (h.store.kept d hd)

/-- The engine behind one version more. -/
theorem padd_any (x : Nat) (X : PEng) (f : List Nat) (c : Nat) (st : Int) (q : Option Int) (w : World) (hc : c < 60) (h : PEngA x X w f) (hn : f.Nodup) (hl : ((X.hist c).length + 1) * 24 ≤ 140737488355328) :
    Calls Try.prog 72 #[.pointer (some ⟨x, 1955 + 1 + c * 2, none⟩), .agg #[.int .i64 st, .bool q.isSome, .int .i64 (q.getD 0)]] w fun e w' => e = .returned (.tuple #[]) ∧ ATo (PEngA x (X.addV c (st, q))) f w w' := by
  have hwi := PEngA.within _ _ h
  obtain ⟨kv, hP, f2, hE, rfl⟩ := h
  obtain ⟨cs, hb⟩ := hP.block
  have hkc := hP.store.kept c hc
  have hlen1 : c < ((List.range 60).map kv).length := by simpa using hc
  have hlen2 : c < ((List.range 60).map X.hist).length := by simpa using hc
  obtain ⟨fa, g, fb, hh, e2, hput⟩ := EachA.focus HistA.framed hE c hlen1 hlen2
  subst e2
  simp only [List.getElem_map, List.getElem_range] at hh
  obtain ⟨hrow, rfl⟩ := hh
  obtain ⟨a, m, cp, hkv⟩ := own_slice hrow
  rw [hkv] at hrow hkc hn hwi
  have em := own_len hrow
  subst em
  have hcs : cs[1955 + 1 + c * 2 + 1]? = some (.slice a (X.hist c).length cp) := by rw [cell_of_row _ _ _ _ _ _ hb] at hkc; exact hkc
  have hsz := (Array.getElem?_eq_some_iff.mp hcs).1
  refine (add_core x (1955 + 1 + c * 2) (X.hist c) st q a cp cs w hl hb hsz hcs hrow).mono ?_
  rintro e w' ⟨rfl, g3, c', w3, hg3, hown3, hb3, rfl, hfr⟩
  refine ⟨rfl, ?_⟩
  have hb4 : (w3.setCell ⟨x, 1955 + 1 + c * 2 + 1, none⟩ (.slice (some ⟨g3, 0, none⟩) ((X.hist c).length + 1) c')).heap[x]? = some (.cells ((cs.setIfInBounds (1955 + 1 + c * 2) (.int .i64 st)).setIfInBounds (1955 + 1 + c * 2 + 1) (.slice (some ⟨g3, 0, none⟩) ((X.hist c).length + 1) c')) 93 (0, 0)) := blk_setCell hb3 _ _
  have hP' := hP.of_block hb hc st _ hb4 q
  have hfr4 : Fr (x :: (Value.slice a (X.hist c).length cp).ownBlock.toList) w (w3.setCell ⟨x, 1955 + 1 + c * 2 + 1, none⟩ (.slice (some ⟨g3, 0, none⟩) ((X.hist c).length + 1) c')) := hfr.set (.inl (by simp)) _
  have hn2 : ((x :: fa) ++ ((Value.slice a (X.hist c).length cp).ownBlock.toList ++ fb)).Nodup := by simpa using hn
  have hdis : ∀ k, k ∈ fa ∨ k ∈ fb → k ∉ x :: (Value.slice a (X.hist c).length cp).ownBlock.toList := by
    intro k hk hk2
    rw [List.nodup_append] at hn2
    obtain ⟨n1, n2, d1⟩ := hn2
    rw [List.nodup_cons] at n1
    rw [List.nodup_append] at n2
    rcases List.mem_cons.mp hk2 with e | e
    · subst e
      rcases hk with h | h
      · exact n1.1 h
      · exact d1 k (by simp) k (by simp [h]) rfl
    · rcases hk with h | h
      · exact d1 k (by simp [h]) k (List.mem_append_left _ e) rfl
      · exact n2.2.2 k e k h rfl
  have hH : HistA (.slice (some ⟨g3, 0, none⟩) ((X.hist c).length + 1) c') (X.hist c ++ [(st, q)]) (w3.setCell ⟨x, 1955 + 1 + c * 2 + 1, none⟩ (.slice (some ⟨g3, 0, none⟩) ((X.hist c).length + 1) c')) [g3] := by
    refine ⟨?_, rfl⟩
    simp only [List.length_append, List.length_cons, List.length_nil]
    exact ownsRow_setCell_other hown3 (own_ne_ty hown3 hb3 (by decide)) _
  have hE' := hput _ _ _ _ _ hH hfr4 (fun k hk => hdis k (.inl hk)) (fun k hk => hdis k (.inr hk))
  have hg4 : g3 ∈ (Value.slice a (X.hist c).length cp).ownBlock.toList ∨ w.heap.size ≤ g3 := by
    rcases hg3 with h | h
    · exact .inl (by rw [h]; simp)
    · exact .inr h
  refine ⟨x :: (fa ++ ([g3] ++ fb)), ⟨_, hP', _, ?_, rfl⟩, ?_, ?_, ?_⟩
  · show EachA HistA ((List.range 60).map (upd kv c _)) ((List.range 60).map (upd X.hist c _)) _ _
    rw [range_map_upd, range_map_upd]
    exact hE'
  · have := nodup_swap (fa := x :: fa) (g := (Value.slice a (X.hist c).length cp).ownBlock.toList) (g' := [g3]) (fb := fb) (N := w.heap.size) hn2 (fun k hk => hwi k (by simpa using hk)) (by simp) (fun k hk => by simp only [List.mem_singleton] at hk; subst hk; exact hg4)
    simpa using this
  · intro k hk
    rw [hkv]
    have : k = g3 → k ∈ (Value.slice a (X.hist c).length cp).ownBlock.toList ∨ w.heap.size ≤ k := fun e => by subst e; exact hg4
    simp only [List.mem_cons, List.mem_append, List.not_mem_nil, or_false] at hk ⊢
    grind
  · rw [hkv]
    exact hfr4.mono (fun k hk => .inl (by simp only [List.mem_cons, List.mem_append] at hk ⊢; grind))

end Go.Proofs.Ythlhbjnkohinmaa

/- The program's versions in memory: the whole commit. -/
namespace Go.Proofs.Ythlhbjnkohinmaa
open Go.RowKit

/-- The engine while a commit is laid: the first k cells are done. -/
def comN (X : PEng) (S : PSes) (k : Nat) : PEng := { X with
  latest := X.latest + 1
  last := fun c => if c < k ∧ (S.wr c).isSome then X.latest + 1 else X.last c
  hist := fun c => if c < k then (match S.wr c with | some v => X.hist c ++ [(X.latest + 1, v)] | none => X.hist c) else X.hist c }
theorem comN_none (X : PEng) (S : PSes) {k : Nat} (h : S.wr k = none) : comN X S (k + 1) = comN X S k := by
  unfold comN
  congr 1
  · funext c
    by_cases e : c = k
    · subst e; simp [h]
    · have : (c < k + 1) = (c < k) := by apply propext; omega
      simp only [this]
  · funext c
    by_cases e : c = k
    · subst e; simp [h]
    · have : (c < k + 1) = (c < k) := by apply propext; omega
      simp only [this]
theorem comN_some (X : PEng) (S : PSes) {k : Nat} {v : Option Int} (h : S.wr k = some v) : comN X S (k + 1) = (comN X S k).addV k (X.latest + 1, v) := by
  unfold comN PEng.addV
  congr 1
  · funext c
    by_cases e : c = k
    · subst e; simp [upd, h]
    · have : (c < k + 1) = (c < k) := by apply propext; omega
      simp only [this, upd, e, if_false]
  · funext c
    by_cases e : c = k
    · subst e; simp [upd, h]
    · have : (c < k + 1) = (c < k) := by apply propext; omega
      simp only [this, upd, e, if_false]

/-- What is said of an engine speaks of its sixty cells. -/
theorem PEngA.congr {x : Nat} {X X' : PEng} {w : World} {f : List Nat} (h : PEngA x X w f) (h0 : X'.src = X.src) (h1 : X'.opened = X.opened) (h2 : X'.ses = X.ses) (h3 : X'.latest = X.latest) (h4 : ∀ c, c < 60 → X'.last c = X.last c) (h5 : ∀ c, c < 60 → X'.hist c = X.hist c) : PEngA x X' w f := by
  obtain ⟨kv, hP, f2, hE, rfl⟩ := h
  refine ⟨kv, ⟨hP.block, by rw [h0]; exact hP.rules, by unfold PEng.room; rw [h0]; exact hP.room, by rw [h1]; exact hP.opened, fun k hk => by rw [h2]; exact hP.ses k hk, ⟨by rw [h3]; exact hP.store.latest, fun c hc => by rw [h4 c hc]; exact hP.store.last c hc, hP.store.kept⟩⟩, f2, ?_, rfl⟩
  have : (List.range 60).map X'.hist = (List.range 60).map X.hist := List.map_congr_left (fun c hc => h5 c (by simpa using hc))
  rw [this]
  exact hE
theorem comN_all {x : Nat} {X : PEng} {S : PSes} {w : World} {f : List Nat} (h : PEngA x (comN X S 60) w f) : PEngA x (X.commit S) w f :=
  h.congr rfl rfl rfl rfl (fun c hc => by simp [comN, PEng.commit, hc]) (fun c hc => by simp only [comN, PEng.commit, hc, if_true]; cases S.wr c <;> rfl)

theorem fr_then {f S : List Nat} {w w1 w2 : World} (h : Fr f w w1) (k : Fr S w1 w2) (hs : ∀ x ∈ S, x ∈ f ∨ w.heap.size ≤ x) : Fr f w w2 :=
  ⟨k.os.trans h.os, k.tape.trans h.tape, k.output.trans h.output, Nat.le_trans h.size k.size, fun i hi hf => (k.block i (Nat.lt_of_lt_of_le hi h.size) (fun e => by rcases hs i e with h | h; exact hf h; omega)).trans (h.block i hi hf)⟩
theorem ATo.then {P P' : Asn} {f : List Nat} {w w1 w2 : World} (h : ATo P f w w1) (k : ∀ f', P w1 f' → f'.Nodup → ATo P' f' w1 w2) : ATo P' f w w2 := by
  obtain ⟨f1, a, n, s, r⟩ := h
  obtain ⟨f2, a2, n2, s2, r2⟩ := k f1 a n
  refine ⟨f2, a2, n2, fun x hx => ?_, fr_then r r2 s⟩
  rcases s2 x hx with h | h
  · exact s x h
  · exact .inr (Nat.le_trans r.size h)

theorem PAt.bump {w : World} {x : Nat} {X : PEng} {kv : Nat → Value} (h : PAt w x X kv) (v : Int) : PAt (w.setCell ⟨x, 1955, none⟩ (.int .i64 v)) x { X with latest := v } kv := by
  obtain ⟨cs, hb⟩ := h.block
  have hc : Chg w (w.setCell ⟨x, 1955, none⟩ (.int .i64 v)) x 1955 1 := (Chg.refl w x 1955 1).set (by omega) (by omega) _
  refine ⟨hc.blk hb, (hc.cell _ (by omega)).trans h.rules, (hc.cell _ (by omega)).trans h.room, (hc.cell _ (by omega)).trans h.opened, fun k hk => (h.ses k hk).other hc (by omega), ⟨?_, fun c hcl => (hc.cell _ (by omega)).trans (h.store.last c hcl), fun c hcl => (hc.cell _ (by omega)).trans (h.store.kept c hcl)⟩⟩
  rw [World.cell?_setCell_same _ _ _ h.store.latest]

set_option maxRecDepth 20000 in
set_option maxHeartbeats 2000000 in
theorem scommit_any (x : Nat) (X : PEng) (S : PSes) (f : List Nat) (w : World) (h : PEngA x X w f) (hn : f.Nodup) (hlat : 0 ≤ X.latest ∧ X.latest < 9223372036854775807) (hl : ∀ c, c < 60 → ((X.hist c).length + 1) * 24 ≤ 140737488355328) :
    Calls Try.prog 56 #[.pointer (some ⟨x, 1955, none⟩), .agg (wrsCells S.wr S.tm).toArray] w fun e w' => e = .returned (.int .i64 (X.latest + 1)) ∧ ATo (PEngA x (X.commit S)) f w w' := by
  have hwi := PEngA.within _ _ h
  obtain ⟨hlat0, hlat1⟩ := hlat
  have hH : w.heap.size ∉ f := fun e => by have := hwi _ e; omega
  obtain ⟨kv, hk0⟩ := h
  obtain ⟨cs, hb⟩ := hk0.1.block
  have c0 := hk0.1.store.latest
  have z0 := frozen_blk hb 1955
  have hxl := lt_of_block hb
  have hxz : x ≠ w.heap.size := by omega
  have HST : Hid (ATo (PEngA x (comN X S 0)) f (w.alloc (.cells (wrsCells S.wr S.tm).toArray 79)) ((w.setCell ⟨x, 1955, none⟩ (.int .i64 (X.latest + 1))).alloc (.cells (wrsCells S.wr S.tm).toArray 79))) := hid (by
    have hp : PNext x { X with latest := X.latest + 1 } kv (w.alloc (.cells (wrsCells S.wr S.tm).toArray 79)) ((w.setCell ⟨x, 1955, none⟩ (.int .i64 (X.latest + 1))).alloc (.cells (wrsCells S.wr S.tm).toArray 79)) := by
      refine ⟨(hk0.1.bump (X.latest + 1)).fr (fr_alloc _ _) (by simp), ?_⟩
      have e : (w.alloc (.cells (wrsCells S.wr S.tm).toArray 79)).setCell ⟨x, 1955, none⟩ (.int .i64 (X.latest + 1)) = (w.setCell ⟨x, 1955, none⟩ (.int .i64 (X.latest + 1))).alloc (.cells (wrsCells S.wr S.tm).toArray 79) := World.setCell_alloc_past _ x 1955 _ hxl
      rw [← e]
      exact (Fr.refl [x] _).set (.inl (by simp)) _
    have := PNext.to (X' := { X with latest := X.latest + 1 }) (PEngK.framed kv x X hk0 (fr_alloc w _) (by simp)) hn rfl hp
    obtain ⟨f', a, n, s, r⟩ := this
    exact ⟨f', a.congr rfl rfl rfl rfl (fun c hc => by simp [comN]) (fun c hc => by simp [comN]), n, s, r⟩)
  have HM : Hid (∀ c, c < 60 → (w.alloc (.cells (wrsCells S.wr S.tm).toArray 79)).cell? ⟨w.heap.size, c * 4, none⟩ = some (.bool (wMade (S.wr c))) ∧ (w.alloc (.cells (wrsCells S.wr S.tm).toArray 79)).cell? ⟨w.heap.size, c * 4 + 1, none⟩ = some (.bool (wFilled (S.wr c))) ∧ (w.alloc (.cells (wrsCells S.wr S.tm).toArray 79)).cell? ⟨w.heap.size, c * 4 + 2, none⟩ = some (.int .i64 (wVal (S.wr c)))) := hid (fun c hc => by
    have e : ∀ i, (w.alloc (.cells (wrsCells S.wr S.tm).toArray 79)).cell? ⟨w.heap.size, i, none⟩ = (wrsCells S.wr S.tm)[i]? := fun i => by rw [cell_of_row _ _ _ _ _ _ (heap_alloc_new w _)]; simp
    rw [e, e, e]
    exact ⟨(wrsCells_at S.wr S.tm hc).1, (wrsCells_at S.wr S.tm hc).2.1, (wrsCells_at S.wr S.tm hc).2.2.1⟩)
  obtain ⟨ca, hca⟩ : ∃ ca, ca = (wrsCells S.wr S.tm).toArray := ⟨_, rfl⟩
  rw [← hca] at HST HM ⊢
  have HHL := hid hl
  have HH := hid hH
  have HWI := hid hwi
  clear hca hk0 hb hn hl hH hwi
  obtain ⟨lt, hlt0⟩ : ∃ lt, lt = X.latest := ⟨_, rfl⟩
  have HLT := hid hlt0
  rw [← hlt0] at c0 hlat0 hlat1 HST ⊢
  clear hlt0
  go_enter Try.func56, Try.ntmps56
  go_wp2_with fail
  generalize hw0 : w.alloc (.cells ca 79) = w0 at HST HM
  have hHw0 : w.heap.size < w0.heap.size := by rw [← hw0]; simp
  have HF0 : Hid (Fr [] w w0) := hid (by rw [← hw0]; exact fr_alloc w _)
  clear hw0
  go_loopw [5] (fun t wr => ∃ k : Nat, k ≤ 60 ∧ t = .int .i64 k ∧ ATo (PEngA x (comN X S k)) f w0 wr) (fun t _ => 60 - (intOf t).toNat)
  case atStart => exact ⟨0, by omega, rfl, HST.out⟩
  case round =>
    obtain ⟨k, hk, rfl, hat⟩ := hrel
    have HATO := hid hat
    obtain ⟨f1, a1, n1, s1, r1⟩ := hat
    have hH1 : w.heap.size ∉ f1 := fun e => by
      rcases s1 _ e with h | h
      · exact HH.out h
      · omega
    have l0 : wr.cell? ⟨x, 1955, none⟩ = some (.int .i64 (lt + 1)) := by
      obtain ⟨kv1, hp1, _⟩ := a1
      rw [HLT.out]
      exact hp1.store.latest
    by_cases hlt : k < 60
    · obtain ⟨m0, m1, m2⟩ := HM.out k hlt
      have d0 := keepc r1 m0 HH.out
      have d1 := keepc r1 m1 HH.out
      have d2 := keepc r1 m2 HH.out
      clear m0 m1 m2
      cases hw : S.wr k with
      | none =>
        rw [hw] at d0
        have HN := hid (comN_none X S hw)
        simp only [wMade, Option.isSome_none] at d0
        clear hw d1 d2 a1 s1 r1 n1 hH1
        go_wp2_with fail
        go_roundw
        case rel => exact ⟨k + 1, by omega, by go_num, by rw [HN.out]; exact HATO.out⟩
        case measure => simp [intOf]; omega
      | some v =>
        rw [hw] at d0 d1 d2
        have e1 : wFilled (some v) = v.isSome := by cases v <;> rfl
        have e2 : wVal (some v) = v.getD 0 := by cases v <;> rfl
        rw [e1] at d1
        rw [e2] at d2
        simp only [wMade, Option.isSome_some] at d0
        have HS := hid (comN_some X S hw)
        have HADD : Hid (∀ W, Fr [] wr W → Calls Try.prog 72 #[.pointer (some ⟨x, 1955 + 1 + k * 2, none⟩), .agg #[.int .i64 (lt + 1), .bool v.isSome, .int .i64 (v.getD 0)]] W fun e w' => e = .returned (.tuple #[]) ∧ ATo (PEngA x (comN X S (k + 1))) f1 W w') := hid (fun W hW => by
          rw [HS.out, HLT.out]
          refine padd_any x (comN X S k) f1 k (X.latest + 1) v W hlt (PEngA.framed _ _ a1 hW (by simp)) n1 ?_
          have : (comN X S k).hist k = X.hist k := by simp [comN]
          rw [this]
          exact HHL.out k hlt)
        obtain ⟨vf, hvf⟩ : ∃ vf, vf = v.isSome := ⟨_, rfl⟩
        obtain ⟨vv, hvv⟩ : ∃ vv, vv = v.getD 0 := ⟨_, rfl⟩
        rw [← hvf] at d1 HADD
        rw [← hvv] at d2 HADD
        have HS1 := hid s1
        have HR1 := hid r1
        have HLAT : Hid (∀ W f2, PEngA x (comN X S (k + 1)) W f2 → W.cell? ⟨x, 1955, none⟩ = some (.int .i64 (lt + 1))) := hid (fun W f2 hp => by
          obtain ⟨kv1, hp1, _⟩ := hp
          rw [HLT.out]
          exact hp1.store.latest)
        clear hw e1 e2 hvf hvv a1 s1 r1 n1
        have hk0' : (0 : Int) ≤ (k : Int) := by omega
        have hk1' : (k : Int) < 60 := by omega
        go_wp2_with fail
        go_region_held3 (fun W => W.cell? ⟨x, 1955, none⟩ = some (.int .i64 (lt + 1)) ∧ W.cell? ⟨w.heap.size, k * 4 + 1, none⟩ = some (.bool vf) ∧ W.cell? ⟨w.heap.size, k * 4 + 2, none⟩ = some (.int .i64 vv)) (first | go_keep | (exact ⟨j0, j1, j2⟩)) (first
          | (go_at_call 72
             refine (HADD.out _ (fr_drew (Fr.refl _ _))).mono ?_
             rintro e w2 ⟨rfl, hat2⟩
             have HAT2 := hid hat2
             obtain ⟨f2, b2, _, _, r2⟩ := hat2
             have j0 := HLAT.out _ _ b2
             have j1 := keepc r2 (keep0 (fr_drew (Fr.refl _ _)) d1) hH1
             have j2 := keepc r2 (keep0 (fr_drew (Fr.refl _ _)) d2) hH1
             clear r2 b2))
        go_wp2_with fail
        go_roundw
        case rel =>
          obtain ⟨f2, b2, n2, s2, r2⟩ := HAT2.out.before (fr_drew (Fr.refl [] wr))
          refine ⟨k + 1, by omega, by go_num, f2, b2, n2, fun y hy => ?_, fr_then HR1.out r2 HS1.out⟩
          rcases s2 y hy with h | h
          · exact HS1.out y h
          · exact .inr (Nat.le_trans HR1.out.size h)
        case measure => simp [intOf]; omega
    · have hk60 : k = 60 := by omega
      subst hk60
      clear a1 s1 r1 n1 hH1
      go_wp2_with fail
      go_ret
      refine ⟨rfl, ?_⟩
      obtain ⟨f2, a2, n2, s2, r2⟩ := HATO.out.before HF0.out
      exact ⟨f2, comN_all a2, n2, s2, r2⟩

end Go.Proofs.Ythlhbjnkohinmaa
