import Derived.Test.YthlhbjnkohinmaaGreatPart02
import Derived.Deep.RegionHeld3
import Derived.Deep.AppendLies
/- The document's engine: the last write to each cell. -/
namespace Go.Proofs.YthlhbjnkohinmaaGreat
open Go.RowKit

theorem newestN_le (wr : List Wr) (n : Nat) : (newestN wr n).length ≤ n := by
  have := List.length_filterMap_le (newestAt wr) (List.range n)
  simpa [newestN] using this

set_option maxRecDepth 20000 in
set_option maxHeartbeats 2000000 in
theorem rnewest_any (S : Ses) (p : Value) (fp : List Nat) (w : World) (hses : SesA p S w fp) (hwl : S.wr.length ≤ 9223372036854775806) :
    Calls Tryz.prog 58 #[p] w fun e w' => ∃ v, e = .returned v ∧ w'.ownsRow w.heap.size 107 2 v (newest S.wr).length (wrCells (newest S.wr)) ∧ w.grownBy w' none := by
  obtain ⟨i0, hi0, hz0, hz1, hz2⟩ := info_parts Tryz.info107
  obtain ⟨g1, a1, m1, c1, a2, m2, c2, rfl, hb1, hown1, _, _⟩ := hses.open
  have em1 := own_len hown1
  subst em1
  have hg1l := lt_of_block hb1
  have HB1 := hid hb1
  have HO1 := hid hown1
  clear hses hb1 hown1
  go_enter Tryz.func58, Tryz.ntmps58
  go_wp2_with fail
  go_loopw [3, 4] (fun v t wr => ∃ k : Nat, k ≤ 60 ∧ t = .int .i64 k ∧ wr.ownsRow w.heap.size 107 2 v (newestN S.wr k).length (wrCells (newestN S.wr k)) ∧ w.grownBy wr none) (fun _ t _ => 60 - (intOf t).toNat)
  case atStart => exact ⟨0, by omega, rfl, World.ownsRow_nil _ _ _ _, grown_refl _ _⟩
  case round =>
    obtain ⟨k, hk, rfl, hown, hg⟩ := hrel
    by_cases hlt : k < 60
    · have HCE := hid (cell_any k wr hlt)
      have HNS := hid (newestN_succ S.wr k)
      have hnl := newestN_le S.wr k
      go_wp2_with fail
      go_at_call 84
      refine HCE.out.mono ?_
      rintro e w1 ⟨rfl, hg1⟩
      have hg01 := grown_trans hg hg1
      have hb2 := (hg01.block g1 hg1l (by simp)).trans HB1.out
      have d2 : w1.cell? ⟨g1, 2, none⟩ = some (.slice a1 S.wr.length c1) := by rw [cell_of_row _ _ _ _ _ _ hb2]; rfl
      have hor := own_kept HO1.out hg01 (fun g hg => by cases hg)
      have HLA := hid (last_any S.wr (cellT k) a1 S.wr.length c1 0 w1 (by omega) hor)
      have hown2 := own_kept hown hg1 (fun g hg => by cases hg)
      have hsz := hg01.size
      obtain ⟨ct, hct⟩ : ∃ ct, ct = cellT k := ⟨_, rfl⟩
      have HNA : Hid (newestAt S.wr k = (lastI ct S.wr).map fun j => S.wr.getD j (ByteArray.empty, 0)) := hid (by rw [hct]; rfl)
      rw [← hct] at HLA ⊢
      clear hct HCE hb2 hown hg hg1
      cases hla : lastI ct S.wr with
      | none =>
        have e2 : lastR S.wr ct = -1 := by unfold lastR; rw [hla]
        rw [e2] at HLA
        have HF' : Hid (newestN S.wr (k + 1) = newestN S.wr k) := hid (by rw [HNS.out, HNA.out, hla]; simp)
        clear hla e2 hor
        go_wp2_with fail
        go_at_call 87
        refine HLA.out.mono ?_
        rintro e w2 ⟨rfl, rfl⟩
        go_wp2
        go_roundw
        case rel => exact ⟨k + 1, by omega, by go_num, by rw [HF'.out]; exact hown2, hg01⟩
        case measure => simp [intOf]; omega
      | some j =>
        have hj := lastI_lt hla
        have e2 : lastR S.wr ct = j := by unfold lastR; rw [hla]
        rw [e2] at HLA
        have hjd : S.wr.getD j (ByteArray.empty, 0) = S.wr[j] := by simp [List.getD, hj]
        have HF' : Hid (newestN S.wr (k + 1) = newestN S.wr k ++ [S.wr[j]]) := hid (by rw [HNS.out, HNA.out, hla]; simp [hj])
        obtain ⟨g2, rfl, _, hgb, hgl, hcell⟩ := own_cell hor (by omega)
        have x0 := hcell _ _ (wrCells_at S.wr j hj).1
        have x1 := hcell _ _ (wrCells_at S.wr j hj).2
        obtain ⟨p0, hp0⟩ : ∃ p0, p0 = S.wr[j] := ⟨_, rfl⟩
        rw [← hp0] at x0 x1 HF'
        clear hla e2 hor hjd hcell hp0
        go_wp2_with fail
        go_at_call 87
        refine HLA.out.mono ?_
        rintro e w2 ⟨rfl, rfl⟩
        go_wp2_with (first | (at_builtin; refine wpList_append_own _ rfl (.tmp 21) (.tmp 29) 97 rfl (w.heap.size) 107 i0 (.agg #[.string ByteArray.empty, .int .i64 0]) 2 24 Tryz.underlying97 hi0 hz0 hz1 hz2 rfl (by decide) _ _ _ rfl (hown2.alloc _) _ 1 1 [.string p0.1, .int .i64 p0.2] rfl rfl (fun j u hj => news_at1 hj) (fun u hu => by simp at hu; rcases hu with h | h <;> subst h <;> rfl) (by unfold maxLen; omega) (by omega) (by simp; omega) ?_))
        intro v' w3 hown3 hg3 _
        have hown3' : w3.ownsRow w.heap.size 107 2 v' (newestN S.wr (k + 1)).length (wrCells (newestN S.wr (k + 1))) := by rw [HF'.out, wrCells_snoc]; simpa using hown3
        have hg3' : w.grownBy w3 none := grown_own2 (grown_alloc hg01 _) hg3 (fun g hg => (hown2.lt g hg).1)
        clear hown3 hg3 hown2 hg01
        go_wp2
        go_roundw
        case rel => exact ⟨k + 1, by omega, by go_num, hown3', hg3'⟩
        case measure => simp [intOf]; omega
    · have e : k = 60 := by omega
      subst e
      go_wp2
      go_ret
      exact ⟨_, rfl, hown, hg⟩

end Go.Proofs.YthlhbjnkohinmaaGreat

/- The document's engine: one commit more, one version more. -/
namespace Go.Proofs.YthlhbjnkohinmaaGreat
open Go.RowKit

theorem six_setCell2 {w : World} {g : Nat} {x0 x1 x2 x3 x4 x5 u : Value} {t : TypeId} (h : w.heap[g]? = some (.cells #[x0, x1, x2, x3, x4, x5] t (0, 0))) : (w.setCell ⟨g, 2, none⟩ u).heap[g]? = some (.cells #[x0, x1, u, x3, x4, x5] t (0, 0)) := by
  obtain ⟨hl, e⟩ := Array.getElem?_eq_some_iff.mp h
  simp [World.setCell, hl, Array.getElem_modify, e]
theorem six_setCell3 {w : World} {g : Nat} {x0 x1 x2 x3 x4 x5 u : Value} {t : TypeId} (h : w.heap[g]? = some (.cells #[x0, x1, x2, x3, x4, x5] t (0, 0))) : (w.setCell ⟨g, 3, none⟩ u).heap[g]? = some (.cells #[x0, x1, x2, u, x4, x5] t (0, 0)) := by
  obtain ⟨hl, e⟩ := Array.getElem?_eq_some_iff.mp h
  simp [World.setCell, hl, Array.getElem_modify, e]

theorem EngA.within0 {Q : Value → Asn} (hQ : ∀ v, Within (Q v)) (y : Nat) (E : Eng) : Within (EngA Q y E) := by
  rintro w f ⟨rv, cv, kv, ov, cs, ps, h⟩
  exact Star.within (BlockA.within _ _ _) (Star.within (hQ rv) (Star.within (RowA.within _ _ _ _ _) (Star.within (EachA.within (fun _ _ => RowA.within _ _ _ _ _) _ _) (Star.within (RowA.within _ _ _ _ _) (Star.within (RowA.within _ _ _ _ _) (EachA.within SesA.within _ _)))))) h

theorem perm_mid {A f7 fv C : List Nat} : (A ++ ((f7 ++ fv) ++ C)).Perm ((A ++ (f7 ++ C)) ++ fv) := by
  rw [List.append_assoc A]
  apply List.Perm.append_left
  rw [List.append_assoc, List.append_assoc]
  exact List.Perm.append_left f7 List.perm_append_comm

theorem EngA.comGrow {Q : Value → Asn} (hQ : ∀ v, Framed (Q v)) (hQw : ∀ v, Within (Q v)) {y : Nat} {E : Eng} {w : World} {f : List Nat} (hE : EngA Q y E w f) (hn : f.Nodup) :
    ∃ rv cv kv ov cs, w.heap[y]? = some (.cells #[rv, .int .i64 E.room, cv, kv, ov, .int .i64 E.opened] 40 (0, 0)) ∧ w.ownsRow 0 97 1 cv E.com.length cs ∧ w.ownsRow 0 124 3 kv E.kept.length (kvCells E.kept) ∧ (∀ x ∈ y :: cv.ownBlock.toList, x ∈ f) ∧
      ∀ (l : List Wr) (v : Value) (fv : List Nat) (g3 c' : Nat) (w3 w' : World), RowA 107 2 v l.length (wrCells l) w fv → (∀ x ∈ fv, x ∉ f) → fv.Nodup → (cv.ownBlock = some g3 ∨ w.heap.size ≤ g3) → w3.ownsRow 0 97 1 (.slice (some ⟨g3, 0, none⟩) (E.com.length + 1) c') (E.com.length + 1) (cs ++ [v]) →
        Fr cv.ownBlock.toList w w3 → w'.heap = (w3.setCell ⟨y, 2, none⟩ (.slice (some ⟨g3, 0, none⟩) (E.com.length + 1) c')).heap → Fr (y :: cv.ownBlock.toList) w w' →
        ∃ f', EngA Q y { E with com := E.com ++ [l] } w' f' ∧ f'.Nodup ∧ ∀ x ∈ f', x ∈ f ∨ x ∈ fv ∨ w.heap.size ≤ x := by
  have hwi := EngA.within0 hQw y E hE
  obtain ⟨rv, cv, kv, ov, cs, ps, f1, f2, ⟨hb, rfl⟩, ⟨f3, f4, hq, ⟨f5, f6, ⟨hcr, rfl⟩, ⟨f7, f8, hcom, ⟨f9, f10, hkr, ⟨f11, f12, hor, hses, rfl⟩, rfl⟩, rfl⟩, rfl⟩, rfl⟩, rfl⟩ := hE
  refine ⟨rv, cv, kv, ov, cs, hb, hcr, hkr.1, fun x hx => by simp at hx ⊢; rcases hx with h | h <;> simp [h], ?_⟩
  intro l v fv g3 c' w3 w' hv hvf hvn hg3 hv3 hf3 hw' hfr
  have hvl := RowA.within _ _ _ _ _ hv
  have hyl := lt_of_block hb
  have hdis : ∀ x, x ∈ f3 ∨ x ∈ f7 ∨ x ∈ f9 ∨ x ∈ f11 ∨ x ∈ f12 ∨ x ∈ fv → x ∉ y :: cv.ownBlock.toList := by
    simp only [List.nodup_append, List.mem_append, List.mem_singleton] at hn
    simp only [List.mem_append, List.mem_singleton] at hvf
    intro x hx hx2
    simp only [List.mem_cons] at hx2
    grind
  have hy3 : w3.heap[y]? = some (.cells #[rv, .int .i64 E.room, cv, kv, ov, .int .i64 E.opened] 40 (0, 0)) := (hf3.block y hyl (fun e => by
    simp only [List.nodup_append, List.mem_append, List.mem_singleton] at hn
    grind)).trans hb
  have hy4 : w'.heap[y]? = some (.cells #[rv, .int .i64 E.room, .slice (some ⟨g3, 0, none⟩) (E.com.length + 1) c', kv, ov, .int .i64 E.opened] 40 (0, 0)) := by rw [hw']; exact six_setCell2 hy3
  have hv4 := own_heap (ownsRow_setCell_other hv3 (own_ne_ty hv3 hy3 (by decide)) (.slice (some ⟨g3, 0, none⟩) (E.com.length + 1) c')) hw'
  have hC2 : EachA ComA (cs ++ [v]) (E.com ++ [l]) w' (f7 ++ fv) := EachA.snoc (P := ComA) (RowA.framed _ _ _ _ _ hv hfr (fun x hx => hdis x (by simp [hx]))) (EachA.framed ComA.framed _ _ hcom hfr (fun x hx => hdis x (by simp [hx])))
  refine ⟨[y] ++ (f3 ++ ([g3] ++ ((f7 ++ fv) ++ (f9 ++ (f11 ++ f12))))), ⟨rv, _, kv, ov, _, ps, [y], _, ⟨hy4, rfl⟩, ⟨f3, _, hQ rv hq hfr (fun x hx => hdis x (by simp [hx])), ⟨[g3], _, ⟨?_, rfl⟩, ⟨f7 ++ fv, _, hC2, ⟨f9, _, RowA.framed _ _ _ _ _ hkr hfr (fun x hx => hdis x (by simp [hx])), ⟨f11, f12, RowA.framed _ _ _ _ _ hor hfr (fun x hx => hdis x (by simp [hx])), EachA.framed SesA.framed _ _ hses hfr (fun x hx => hdis x (by simp [hx])), rfl⟩, rfl⟩, rfl⟩, rfl⟩, rfl⟩, rfl⟩, ?_, ?_⟩
  · simp only [List.length_append, List.length_cons, List.length_nil]
    exact hv4
  · have hg4 : g3 ∈ cv.ownBlock.toList ∨ w.heap.size ≤ g3 := by
      rcases hg3 with h | h
      · exact .inl (by rw [h]; simp)
      · exact .inr h
    have hn3 : (([y] ++ f3) ++ (cv.ownBlock.toList ++ (f7 ++ (f9 ++ (f11 ++ f12))))).Nodup := by simpa only [List.append_assoc] using hn
    have hn4 := nodup_swap (g' := [g3]) hn3 (fun x hx => hwi x (by simpa only [List.append_assoc] using hx)) (by simp) (fun x hx => by simp only [List.mem_singleton] at hx; subst hx; exact hg4)
    have hn5 : ((([y] ++ f3) ++ [g3]) ++ ((f7 ++ fv) ++ (f9 ++ (f11 ++ f12)))).Nodup := by
      rw [perm_mid.nodup_iff, List.nodup_append]
      refine ⟨by simpa only [List.append_assoc] using hn4, hvn, ?_⟩
      rintro a ha b hb rfl
      have h1 := hvl a hb
      have h2 := hvf a hb
      simp only [List.mem_append, List.mem_singleton] at ha h2
      have h3 : a = g3 → a ∈ cv.ownBlock.toList := fun e => by
        subst e
        rcases hg4 with h | h
        · exact h
        · omega
      grind
    simpa only [List.append_assoc] using hn5
  · intro x hx
    have hg4 : x = g3 → x ∈ cv.ownBlock.toList ∨ w.heap.size ≤ x := by
      rintro rfl
      rcases hg3 with h | h
      · exact .inl (by rw [h]; simp)
      · exact .inr h
    simp only [List.mem_append, List.mem_singleton] at hx ⊢
    grind

theorem EngA.keptGrow {Q : Value → Asn} (hQ : ∀ v, Framed (Q v)) (hQw : ∀ v, Within (Q v)) {y : Nat} {E : Eng} {w : World} {f : List Nat} (hE : EngA Q y E w f) (hn : f.Nodup) :
    ∃ rv cv kv ov cs, w.heap[y]? = some (.cells #[rv, .int .i64 E.room, cv, kv, ov, .int .i64 E.opened] 40 (0, 0)) ∧ w.ownsRow 0 97 1 cv E.com.length cs ∧ w.ownsRow 0 124 3 kv E.kept.length (kvCells E.kept) ∧ (∀ x ∈ y :: kv.ownBlock.toList, x ∈ f) ∧
      ∀ (q : Int × Wr) (g3 c' : Nat) (w3 w' : World), (kv.ownBlock = some g3 ∨ w.heap.size ≤ g3) → w3.ownsRow 0 124 3 (.slice (some ⟨g3, 0, none⟩) (E.kept.length + 1) c') (E.kept.length + 1) (kvCells E.kept ++ [.int .i64 q.1, .string q.2.1, .int .i64 q.2.2]) →
        Fr kv.ownBlock.toList w w3 → w'.heap = (w3.setCell ⟨y, 3, none⟩ (.slice (some ⟨g3, 0, none⟩) (E.kept.length + 1) c')).heap → Fr (y :: kv.ownBlock.toList) w w' →
        ∃ f', EngA Q y { E with kept := E.kept ++ [q] } w' f' ∧ f'.Nodup ∧ ∀ x ∈ f', x ∈ f ∨ w.heap.size ≤ x := by
  have hwi := EngA.within0 hQw y E hE
  obtain ⟨rv, cv, kv, ov, cs, ps, f1, f2, ⟨hb, rfl⟩, ⟨f3, f4, hq, ⟨f5, f6, hcr, ⟨f7, f8, hcom, ⟨f9, f10, ⟨hkr, rfl⟩, ⟨f11, f12, hor, hses, rfl⟩, rfl⟩, rfl⟩, rfl⟩, rfl⟩, rfl⟩ := hE
  refine ⟨rv, cv, kv, ov, cs, hb, hcr.1, hkr, fun x hx => by simp at hx ⊢; rcases hx with h | h <;> simp [h], ?_⟩
  intro q g3 c' w3 w' hg3 hv3 hf3 hw' hfr
  have hyl := lt_of_block hb
  have hdis : ∀ x, x ∈ f3 ∨ x ∈ f5 ∨ x ∈ f7 ∨ x ∈ f11 ∨ x ∈ f12 → x ∉ y :: kv.ownBlock.toList := by
    simp only [List.nodup_append, List.mem_append, List.mem_singleton] at hn
    intro x hx hx2
    simp only [List.mem_cons] at hx2
    grind
  have hy3 : w3.heap[y]? = some (.cells #[rv, .int .i64 E.room, cv, kv, ov, .int .i64 E.opened] 40 (0, 0)) := (hf3.block y hyl (fun e => by
    simp only [List.nodup_append, List.mem_append, List.mem_singleton] at hn
    grind)).trans hb
  have hy4 : w'.heap[y]? = some (.cells #[rv, .int .i64 E.room, cv, .slice (some ⟨g3, 0, none⟩) (E.kept.length + 1) c', ov, .int .i64 E.opened] 40 (0, 0)) := by rw [hw']; exact six_setCell3 hy3
  have hv4 := own_heap (ownsRow_setCell_other hv3 (own_ne_ty hv3 hy3 (by decide)) (.slice (some ⟨g3, 0, none⟩) (E.kept.length + 1) c')) hw'
  refine ⟨[y] ++ (f3 ++ (f5 ++ (f7 ++ ([g3] ++ (f11 ++ f12))))), ⟨rv, cv, _, ov, cs, ps, [y], _, ⟨hy4, rfl⟩, ⟨f3, _, hQ rv hq hfr (fun x hx => hdis x (by simp [hx])), ⟨f5, _, RowA.framed _ _ _ _ _ hcr hfr (fun x hx => hdis x (by simp [hx])), ⟨f7, _, EachA.framed ComA.framed _ _ hcom hfr (fun x hx => hdis x (by simp [hx])), ⟨[g3], _, ⟨?_, rfl⟩, ⟨f11, f12, RowA.framed _ _ _ _ _ hor hfr (fun x hx => hdis x (by simp [hx])), EachA.framed SesA.framed _ _ hses hfr (fun x hx => hdis x (by simp [hx])), rfl⟩, rfl⟩, rfl⟩, rfl⟩, rfl⟩, rfl⟩, ?_, ?_⟩
  · have e : kvCells (E.kept ++ [q]) = kvCells E.kept ++ [.int .i64 q.1, .string q.2.1, .int .i64 q.2.2] := by simp [kvCells]
    simp only [List.length_append, List.length_cons, List.length_nil]
    rw [e]
    exact hv4
  · have hg4 : g3 ∈ kv.ownBlock.toList ∨ w.heap.size ≤ g3 := by
      rcases hg3 with h | h
      · exact .inl (by rw [h]; simp)
      · exact .inr h
    have hn3 : (([y] ++ (f3 ++ (f5 ++ f7))) ++ (kv.ownBlock.toList ++ (f11 ++ f12))).Nodup := by simpa only [List.append_assoc] using hn
    have hn4 := nodup_swap (g' := [g3]) hn3 (fun x hx => hwi x (by simpa only [List.append_assoc] using hx)) (by simp) (fun x hx => by simp only [List.mem_singleton] at hx; subst hx; exact hg4)
    simpa only [List.append_assoc] using hn4
  · intro x hx
    have hg4 : x = g3 → x ∈ kv.ownBlock.toList ∨ w.heap.size ≤ x := by
      rintro rfl
      rcases hg3 with h | h
      · exact .inl (by rw [h]; simp)
      · exact .inr h
    simp only [List.mem_append, List.mem_singleton] at hx ⊢
    grind

end Go.Proofs.YthlhbjnkohinmaaGreat

/- The document's engine: Commit, where no sweep is needed. -/
namespace Go.Proofs.YthlhbjnkohinmaaGreat
open Go.RowKit

theorem Fr.then {f S : List Nat} {w w1 w2 : World} (h : Fr f w w1) (k : Fr S w1 w2) (hs : ∀ x ∈ S, x ∈ f ∨ w.heap.size ≤ x) : Fr f w w2 :=
  ⟨k.os.trans h.os, k.tape.trans h.tape, k.output.trans h.output, Nat.le_trans h.size k.size, fun i hi hf => (k.block i (Nat.lt_of_lt_of_le hi h.size) (fun e => by rcases hs i e with h | h; exact hf h; omega)).trans (h.block i hi hf)⟩
theorem EngTo.back {Q : Value → Asn} {y : Nat} {E : Eng} {f : List Nat} {w w0 w' : World} (h : EngTo Q y E f w0 w') (hf : Fr [] w w0) : EngTo Q y E f w w' := by
  obtain ⟨f', a, n, s, r⟩ := h
  refine ⟨f', a, n, fun k hk => ?_, (hf.mono (fun k hk => by cases hk)).trans r⟩
  rcases s k hk with h | h
  · exact .inl h
  · exact .inr (Nat.le_trans hf.size h)
theorem cell_same {w w' : World} (h : Fr [] w w') {b i : Nat} {v : Value} (hc : w.cell? ⟨b, i, none⟩ = some v) : w'.cell? ⟨b, i, none⟩ = some v := by
  have hb := World.block_lt_of_cell? w _ hc
  rw [← hc]
  simp only [World.cell?, h.block b hb (by simp)]
theorem Fr.drew0 {w w' : World} (h : Fr [] w w') : Fr [] w w'.drew := h.drewN 1

theorem Tryz.info97 : (Tryz.prog.info? 97).map (fun i => (i.zero, i.size, i.bytes)) = some (some (.slice none 0 0), 1, 24) := by kernel_rfl
theorem Tryz.info124 : (Tryz.prog.info? 124).map (fun i => (i.zero, i.size, i.bytes)) = some (some (.agg #[.int .i64 0, .string ByteArray.empty, .int .i64 0]), 3, 32) := by kernel_rfl

/-- The engine while a commit's versions are laid. -/
def E2 (E : Eng) (l : List Wr) (i : Nat) : Eng := { E with com := E.com ++ [l], kept := E.kept ++ (l.take i).map (fun p => ((E.com.length : Int) + 1, p)) }
theorem E2_zero (E : Eng) (l : List Wr) : E2 E l 0 = { E with com := E.com ++ [l] } := by simp [E2]
theorem E2_all (E : Eng) (l : List Wr) {i : Nat} (h : l.length ≤ i) : E2 E l i = E.commit l := by simp [E2, Eng.commit, List.take_of_length_le h]
theorem E2_succ (E : Eng) (l : List Wr) {i : Nat} (h : i < l.length) : E2 E l (i + 1) = { E2 E l i with kept := (E2 E l i).kept ++ [((E.com.length : Int) + 1, l[i])] } := by
  unfold E2
  rw [List.take_succ_eq_append_getElem h, List.map_append, ← List.append_assoc]
  rfl
/-- The state of the loop that lays them. -/
def Laying (Q : Value → Asn) (y : Nat) (E : Eng) (l : List Wr) (v : Value) (f : List Nat) (w : World) (i : Nat) (wr : World) (f5 : List Nat) : Prop :=
  EngA Q y (E2 E l i) wr f5 ∧ f5.Nodup ∧ (∀ x ∈ f5, x ∈ f ∨ w.heap.size ≤ x) ∧ Fr f w wr ∧ wr.ownsRow 0 107 2 v l.length (wrCells l)

theorem Laying.next {Q : Value → Asn} (hQ : ∀ v, Framed (Q v)) (hQw : ∀ v, Within (Q v)) {y : Nat} {E : Eng} {l : List Wr} {v : Value} {f : List Nat} {w : World} {i : Nat} {wr : World} {f5 : List Nat} (h : Laying Q y E l v f w i wr f5) (hlt : i < l.length) :
    ∃ rv ac cc ak ck ov cs, wr.heap[y]? = some (.cells #[rv, .int .i64 E.room, .slice ac (E.com.length + 1) cc, .slice ak (E.kept.length + i) ck, ov, .int .i64 E.opened] 40 (0, 0)) ∧ wr.ownsRow 0 124 3 (.slice ak (E.kept.length + i) ck) (E.kept.length + i) cs ∧
      ∀ (g5 c5 : Nat) (w5 : World), ((Value.slice ak (E.kept.length + i) ck).ownBlock = some g5 ∨ wr.heap.size ≤ g5) → w5.ownsRow 0 124 3 (.slice (some ⟨g5, 0, none⟩) (E.kept.length + i + 1) c5) (E.kept.length + i + 1) (cs ++ [.int .i64 ((E.com.length : Int) + 1), .string l[i].1, .int .i64 l[i].2]) → Fr (Value.slice ak (E.kept.length + i) ck).ownBlock.toList wr w5 →
        ∃ f6, Laying Q y E l v f w (i + 1) (w5.setCell ⟨y, 3, none⟩ (.slice (some ⟨g5, 0, none⟩) (E.kept.length + i + 1) c5)) f6 := by
  obtain ⟨hE5, hn5, hs5, hfr5, hv5⟩ := h
  have hkl : (E2 E l i).kept.length = E.kept.length + i := by simp [E2]; omega
  have hcl : (E2 E l i).com.length = E.com.length + 1 := by simp [E2]
  obtain ⟨rv, cv, kv, ov, cs0, yb, ycr, ykr, yin, ygo⟩ := EngA.keptGrow hQ hQw hE5 hn5
  obtain ⟨ac, mc, cc, rfl⟩ := own_slice ycr
  obtain ⟨ak, mk, ck, rfl⟩ := own_slice ykr
  have em := own_len ycr
  have ek := own_len ykr
  rw [hcl] at em
  rw [hkl] at ek
  subst em
  subst ek
  rw [hkl] at ykr ygo
  refine ⟨rv, ac, cc, ak, ck, ov, kvCells (E2 E l i).kept, yb, ykr, ?_⟩
  intro g5 c5 w5 hg5 hown5 hfr
  have hfr6 : Fr (y :: (Value.slice ak (E.kept.length + i) ck).ownBlock.toList) wr (w5.setCell ⟨y, 3, none⟩ (.slice (some ⟨g5, 0, none⟩) (E.kept.length + i + 1) c5)) := (hfr.mono (fun k hk => .inl (by simp at hk ⊢; exact .inr hk))).set (.inl (by simp)) _
  obtain ⟨f6, a, nn, s⟩ := ygo ((E.com.length : Int) + 1, l[i]) g5 c5 w5 _ hg5 hown5 hfr rfl hfr6
  refine ⟨f6, by rw [E2_succ E l hlt]; exact a, nn, fun x hx => ?_, ?_, ?_⟩
  · rcases s x hx with h | h
    · exact hs5 x h
    · exact .inr (Nat.le_trans hfr5.size h)
  · exact hfr5.then hfr6 (fun k hk => hs5 k (yin k hk))
  · have hne : ∀ x ∈ v.ownBlock.toList, x ∉ y :: (Value.slice ak (E.kept.length + i) ck).ownBlock.toList := by
      intro x hx e
      have hxv : v.ownBlock = some x := by
        cases hb : v.ownBlock with
        | none => rw [hb] at hx; cases hx
        | some z => rw [hb] at hx; simp at hx; rw [hx]
      obtain ⟨cs1, h1⟩ := own_row_ty hv5 x hxv
      rcases List.mem_cons.mp e with e | e
      · subst e
        rw [yb] at h1
        simp at h1
      · have hxk : (Value.slice ak (E.kept.length + i) ck).ownBlock = some x := by
          cases hb : (Value.slice ak (E.kept.length + i) ck).ownBlock with
          | none => rw [hb] at e; cases e
          | some z => rw [hb] at e; simp at e; rw [e]
        obtain ⟨cs2, h2⟩ := own_row_ty ykr x hxk
        rw [h2] at h1
        simp at h1
    exact (RowA.framed _ _ _ _ _ ⟨hv5, rfl⟩ hfr6 hne).1


end Go.Proofs.YthlhbjnkohinmaaGreat

/- The document's engine: Commit, where no sweep is needed. -/
namespace Go.Proofs.YthlhbjnkohinmaaGreat
open Go.RowKit

/-- Is one of the first i writes in conflict? -/
def noClash (E : Eng) (S : Ses) (l : List Wr) (i : Nat) : Prop := ∀ j (h : j < l.length), j < i → ¬ (atF E.com l[j].1 E.com.length).2 > S.snap

set_option maxRecDepth 20000 in
set_option maxHeartbeats 4000000 in
theorem rcommit_any {Q : Value → Asn} (hQ : ∀ v, Framed (Q v)) (hQw : ∀ v, Within (Q v)) {y : Nat} {E : Eng} {w : World} {f : List Nat} (n : Int) (hE : EngA Q y E w f) (hn : f.Nodup) (hW : EngWF E) (hroom : E.room = 999) (hkept : E.kept.length + 60 ≤ 999) (hcl : (E.com.length + 1) * 24 ≤ 140737488355328) :
    Calls Tryz.prog 30 #[.pointer (some ⟨y, 0, none⟩), .int .i64 n] w fun e w' => e = .returned (.tuple #[.int .i64 (rcommitF E n).1.1, .int .i64 (rcommitF E n).1.2]) ∧ EngTo Q y (rcommitF E n).2 f w w' := by
  have hE0 := hE
  obtain ⟨rv, cv, kv, ov, cs, ps, f1, f2, ⟨hb, rfl⟩, ⟨f3, f4, _, ⟨f5, f6, ⟨hcr, _⟩, ⟨f7, f8, hcom, ⟨f9, f10, ⟨hkr, _⟩, ⟨f11, f12, ⟨hor, _⟩, hses, _⟩, _⟩, _⟩, _⟩, _⟩, _⟩ := hE0
  obtain ⟨ac, mc, cc, rfl⟩ := own_slice hcr
  obtain ⟨ak, mk, ck, rfl⟩ := own_slice hkr
  obtain ⟨ao, mo, co, rfl⟩ := own_slice hor
  have emc := own_len hcr
  have emk := own_len hkr
  subst emc
  subst emk
  have c1 : w.cell? ⟨y, 1, none⟩ = some (.int .i64 999) := by rw [← hroom, cell_of_row _ _ _ _ _ _ hb]; rfl
  have c2 : w.cell? ⟨y, 2, none⟩ = some (.slice ac E.com.length cc) := by rw [cell_of_row _ _ _ _ _ _ hb]; rfl
  have c3 : w.cell? ⟨y, 3, none⟩ = some (.slice ak E.kept.length ck) := by rw [cell_of_row _ _ _ _ _ _ hb]; rfl
  have d4 : w.cell? ⟨y, 4, none⟩ = some (.slice ao mo co) := by rw [cell_of_row _ _ _ _ _ _ hb]; rfl
  have HF := hid (find_any y E.opn ps f12 n ao mo co w d4 hor hses (by have := hW.opnLen; omega))
  have HSES := hid hses
  have HCOM := hid hcom
  have HCR := hid hcr
  have hyl := lt_of_block hb
  have hcl2 := hW.comLen
  obtain ⟨r1, hr1⟩ : ∃ r1, r1 = (rcommitF E n).1.1 := ⟨_, rfl⟩
  obtain ⟨r2, hr2⟩ : ∃ r2, r2 = (rcommitF E n).1.2 := ⟨_, rfl⟩
  obtain ⟨EE, hEE⟩ : ∃ EE, EE = (rcommitF E n).2 := ⟨_, rfl⟩
  rw [← hr1, ← hr2, ← hEE]
  have HRES : Hid ((r1, r2) = (rcommitF E n).1 ∧ EE = (rcommitF E n).2) := hid ⟨by rw [hr1, hr2], hEE⟩
  have HE := hid hE
  have HEND := hid (fun W (hF : Fr [] w W) => rend_any hQ hQw n (EngA.framed hQ _ _ hE hF (by simp)) hn hW.opnLen)
  clear hr1 hr2 hEE hb hses hcom hcr hkr d4 hor hE
  go_enter Tryz.func30, Tryz.ntmps30
  go_wp2_with fail
  go_at_call 44
  refine HF.out.mono ?_
  rintro e w' ⟨⟨u, rfl, hans⟩, rfl⟩
  rcases hans with ⟨k, h1, h2, hn1, hn2, rfl⟩ | ⟨hno, rfl⟩
  · obtain ⟨fp, hse, _⟩ := EachA.get HSES.out k h2 h1
    have hS : E.opn[k] ∈ E.opn := List.getElem_mem h1
    have HNW := hid (rnewest_any E.opn[k] ps[k] fp _ hse (hW.wrLen _ hS))
    have hlen60 : (newest E.opn[k].wr).length ≤ 60 := newestN_le _ 60
    have hRC : rcommitF E n = if rclash E E.opn[k] then ((0, 10), rendF E n) else if (newest E.opn[k].wr).isEmpty then ((0, 0), rendF E n) else (((E.com.length : Int) + 1, 0), rendF (E.commit (newest E.opn[k].wr)) n) := by unfold rcommitF; rw [findS_some h1 hn1 hn2]
    have HRC := hid hRC
    have hRCL : ∀ i, noClash E E.opn[k] (newest E.opn[k].wr) i → (newest E.opn[k].wr).length ≤ i → rclash E E.opn[k] = false := by
      intro i hi hle
      unfold rclash
      rw [List.any_eq_false]
      intro p hp
      obtain ⟨j, hj, rfl⟩ := List.mem_iff_getElem.mp hp
      simpa using hi j hj (by omega)
    have hRCT : ∀ j (h : j < (newest E.opn[k].wr).length), (atF E.com (newest E.opn[k].wr)[j].1 E.com.length).2 > E.opn[k].snap → rclash E E.opn[k] = true := by
      intro j hj hgt
      unfold rclash
      rw [List.any_eq_true]
      exact ⟨_, List.getElem_mem hj, by simpa using hgt⟩
    have HRCL := hid hRCL
    have HRCT := hid hRCT
    obtain ⟨g1, _, _, _, _, _, _, hp, hb1, _⟩ := hse.open
    have s1 : w'.cell? ⟨g1, 1, none⟩ = some (.int .i64 E.opn[k].snap) := by rw [cell_of_row _ _ _ _ _ _ hb1]; rfl
    rw [hp] at HNW ⊢
    obtain ⟨sn, hsn⟩ : ∃ sn, sn = E.opn[k].snap := ⟨_, rfl⟩
    obtain ⟨l, hl⟩ : ∃ l, l = newest E.opn[k].wr := ⟨_, rfl⟩
    have HNC : Hid (∀ i, noClash E E.opn[k] l i ↔ ∀ j (h : j < l.length), j < i → ¬ (atF E.com l[j].1 E.com.length).2 > sn) := hid (fun i => by rw [hsn]; rfl)
    rw [← hl] at HNW hlen60 HRC HRCL HRCT
    rw [← hsn] at s1 HRCT
    clear hRC hRCL hRCT hse hb1 hp HF hn1 hn2 hsn hl
    go_wp2_with fail
    go_at_call 58
    refine HNW.out.mono ?_
    rintro e w1 ⟨v, rfl, hown, hg1⟩
    obtain ⟨av, mv, cv', rfl⟩ := own_slice hown
    have emv := own_len hown
    subst emv
    have HFR1 := hid (fr_none hg1)
    have HOWN := hid hown
    have HAT : Hid (∀ W, Fr [] w' W → ∀ c, Calls Tryz.prog 59 #[.pointer (some ⟨y, 0, none⟩), .string c, .int .i64 E.com.length] W fun e w'' => e = .returned (.tuple #[.int .i64 (atF E.com c E.com.length).1, .int .i64 (atF E.com c E.com.length).2]) ∧ w'' = W) := hid (fun W hF c =>
      at_any y E.com cs f7 c E.com.length ac _ cc W (cell_same hF c2) (RowA.framed _ _ _ _ _ ⟨HCR.out, rfl⟩ hF (by simp)).1 (EachA.framed ComA.framed _ _ HCOM.out hF (by simp)) (Nat.le_refl _) (by omega) (fun l hl => by have := hW.comEach l hl; omega))
    clear hown hg1 HNW
    go_wp2_with fail
    go_loopw [8] (fun t wr => ∃ i : Nat, i ≤ l.length ∧ t = .int .i64 i ∧ Fr [] w1 wr ∧ noClash E E.opn[k] l i) (fun t _ => l.length - (intOf t).toNat)
    case atStart => exact ⟨0, Nat.zero_le _, rfl, Fr.refl _ _, fun j _ h => by omega⟩
    case round =>
      obtain ⟨i, hi, rfl, hfw, hnc⟩ := hrel
      have HFW := hid hfw
      have HNCi := hid hnc
      have HF0 := hid (HFR1.out.trans hfw)
      clear hfw hnc
      by_cases hlt : i < l.length
      · obtain ⟨gv, rfl, _, hgb, hgl, hcell⟩ := own_cell HOWN.out (by omega)
        have x0 := cell_same HFW.out (hcell _ _ (wrCells_at l i hlt).1)
        have x2 := cell_same HF0.out c2
        have x1 := cell_same HF0.out s1
        have HATi := hid (fun W (hF : Fr [] w' W) => HAT.out W hF l[i].1)
        have hbd := atF_bd E.com l[i].1 E.com.length
        obtain ⟨ct, hct⟩ : ∃ ct, ct = l[i].1 := ⟨_, rfl⟩
        obtain ⟨v0, hv0⟩ : ∃ v0, v0 = (atF E.com l[i].1 E.com.length).1 := ⟨_, rfl⟩
        obtain ⟨t0, ht0⟩ : ∃ t0, t0 = (atF E.com l[i].1 E.com.length).2 := ⟨_, rfl⟩
        rw [← ht0] at hbd
        rw [← hv0, ← ht0] at HATi
        rw [← hct] at x0 HATi
        have HT0 := hid ht0
        clear hcell hct hv0 ht0
        have hi0 : (0 : Int) ≤ (i : Int) := by omega
        have hi1 : (i : Int) < (l.length : Int) := by omega
        go_wp2_with fail
        go_region_held3 (fun W => W.cell? ⟨gv, i * 2, none⟩ = some (.string ct) ∧ W.cell? ⟨y, 2, none⟩ = some (.slice ac E.com.length cc)) (go_keep) (first
          | (go_at_call 59
             refine (HATi.out _ HF0.out.drew0).mono ?_
             rintro e w2 ⟨rfl, rfl⟩))
        by_cases hgt : t0 > sn
        · have HCL : Hid (rclash E E.opn[k] = true) := hid (HRCT.out i hlt (by rw [← HT0.out]; exact hgt))
          have HRE : Hid ((r1, r2) = ((0 : Int), (10 : Int)) ∧ EE = rendF E n) := hid (by rw [HRES.out.1, HRES.out.2, HRC.out, HCL.out]; exact ⟨rfl, rfl⟩)
          go_wp2_with fail
          go_at_call 52
          refine (HEND.out _ (by exact HF0.out.drew0)).mono ?_
          rintro e w3 ⟨rfl, ht3⟩
          have HT3 := hid ht3
          clear ht3
          go_wp2_with fail
          go_ret2
          obtain ⟨e1, e2⟩ := HRE.out
          cases e1
          refine ⟨rfl, ?_⟩
          rw [e2]
          exact HT3.out.back (by exact HF0.out.drew0)
        · have HN' : Hid (noClash E E.opn[k] l (i + 1)) := hid ((HNC.out _).mpr (by
            intro j hj hji
            by_cases e : j = i
            · subst e; rw [← HT0.out]; omega
            · exact (HNC.out i).mp HNCi.out j hj (by omega)))
          go_wp2_with fail
          go_roundw
          case rel => exact ⟨i + 1, by omega, by go_num, HFW.out.drew0, HN'.out⟩
          case measure => simp [intOf]; omega
      · have HCL : Hid (rclash E E.opn[k] = false) := hid (HRCL.out i HNCi.out (by omega))
        have x1 := cell_same HF0.out c1
        have x3 := cell_same HF0.out c3
        by_cases hl0 : l.length = 0
        · have HRE : Hid ((r1, r2) = ((0 : Int), (0 : Int)) ∧ EE = rendF E n) := hid (by
            have e : l = [] := List.eq_nil_of_length_eq_zero hl0
            rw [HRES.out.1, HRES.out.2, HRC.out, HCL.out, e]
            exact ⟨rfl, rfl⟩)
          have q : ((l.length : Int) == 0) = true := by simp [hl0]
          go_wp2_with fail
          go_at_call 52
          refine (HEND.out _ HF0.out).mono ?_
          rintro e w3 ⟨rfl, ht3⟩
          have HT3 := hid ht3
          clear ht3
          go_wp2_with fail
          go_ret2
          obtain ⟨e1, e2⟩ := HRE.out
          cases e1
          refine ⟨rfl, ?_⟩
          rw [e2]
          exact HT3.out.back HF0.out
        · have q : ((l.length : Int) == 0) = false := by simp; intro e; rw [e] at hl0; simp at hl0
          have HRE : Hid ((r1, r2) = ((E.com.length : Int) + 1, (0 : Int)) ∧ EE = rendF (E.commit l) n) := hid (by
            have e : l.isEmpty = false := by cases l with | nil => simp at hl0 | cons a b => rfl
            rw [HRES.out.1, HRES.out.2, HRC.out, HCL.out, e]
            exact ⟨rfl, rfl⟩)
          have x2 := cell_same HF0.out c2
          obtain ⟨i0, hi0, hz0, hz1, hz2⟩ := info_parts Tryz.info97
          have hfl : ∀ x ∈ f, x < w'.heap.size := EngA.within0 hQw y E HE.out
          obtain ⟨rv2, cvv, kvv, ovv, cs2, yb, ycr, _, yin, ygo⟩ := EngA.comGrow hQ hQw (EngA.framed hQ _ _ HE.out HF0.out (by simp)) hn
          have ecv : cvv = .slice ac E.com.length cc := by
            have e := cell_of_row _ _ 2 _ _ _ yb
            rw [x2] at e
            simpa using e.symm
          subst ecv
          have hvrow : RowA 107 2 (.slice av l.length cv') l.length (wrCells l) wr (Value.slice av l.length cv').ownBlock.toList := ⟨own_mono (RowA.framed _ _ _ _ _ ⟨own_mono HOWN.out (Nat.zero_le _), rfl⟩ HFW.out (by simp)).1 (Nat.zero_le _), rfl⟩
          have hvb : ∀ x ∈ (Value.slice av l.length cv').ownBlock.toList, w'.heap.size ≤ x := by
            intro x hx
            cases hb : (Value.slice av l.length cv').ownBlock with
            | none => rw [hb] at hx; cases hx
            | some z => rw [hb] at hx; simp at hx; subst hx; exact (HOWN.out.lt _ hb).1
          have HGO := hid (fun g3 c' w3 w4 => ygo l (.slice av l.length cv') _ g3 c' w3 w4 hvrow (fun x hx hf => by have := hvb x hx; have := hfl x hf; omega) (by cases (Value.slice av l.length cv').ownBlock <;> simp))
          have HVR := hid hvrow
          have HVB := hid hvb
          have HYIN := hid yin
          have hyn : (Value.slice ac E.com.length cc).ownBlock ≠ some y := own_ne_ty ycr yb (by decide)
          have HYB := hid yb
          have hylr := lt_of_block yb
          have HFL := hid hfl
          clear ygo hvrow hvb yin yb hfl
          go_wp2_with fail
          go_quiet ((fail))
          go_wp2_with fail
          go_quiet ((fail))
          go_wp2_with (at_builtin; refine wpList_append_lies _ rfl (.tmp 87) (.tmp 89) 36 rfl 0 97 i0 (.slice none 0 0) 1 24 Tryz.underlying36 hi0 hz0 hz1 hz2 rfl (by decide) (.slice ac E.com.length cc) E.com.length cs2 rfl (own_heap (ycr.alloc _) rfl) ⟨wr.heap.size, 0, none⟩ 1 1 [.slice av l.length cv'] rfl rfl (fun j u hj => news_at1 hj) (fun u hu => by simp at hu; subst hu; rfl) (by decide) (by unfold maxLen; omega) hcl (Nat.zero_le _) (wr.heap.size + 1) (by simp) (fun g3 c' w3 hown3 hg3 hva hvl => ?_)
                       have hb3 : w3.heap[y]? = some (.cells #[rv2, .int .i64 E.room, .slice ac E.com.length cc, kvv, ovv, .int .i64 E.opened] 40 (0, 0)) := (hg3.block y (by simp; omega) (fun e => hyn e.symm)).trans ((Below.heap_alloc _ _ _ (by simpa using hylr)).trans HYB.out)
                       have d3 : w3.cell? ⟨y, 2, none⟩ = some (.slice ac E.com.length cc) := by simp [World.cell?, hb3]
                       have z3 : w3.frozen? ⟨y, 2, none⟩ = false := by simp [World.frozen?, hb3])
          have hfr3 : Fr (Value.slice ac E.com.length cc).ownBlock.toList wr w3 := ((((Fr.refl [] wr).drewN _).alloc _).mono (fun k hk => by cases hk)).trans (Fr.grown hg3)
          have hfr4 : Fr (y :: (Value.slice ac E.com.length cc).ownBlock.toList) wr (w3.setCell ⟨y, 2, none⟩ (.slice (some ⟨g3, 0, none⟩) (E.com.length + 1) c')) := (hfr3.mono (fun k hk => .inl (by simp at hk ⊢; exact .inr hk))).set (.inl (by simp)) _
          obtain ⟨f4, hE4, hn4, hs4⟩ := HGO.out g3 c' w3 _ (by rcases hva with h | h; · exact .inl h
                                                               · exact .inr (by omega)) hown3 hfr3 rfl hfr4
          have hv4 := (RowA.framed _ _ _ _ _ HVR.out hfr4 (fun x hx e => by
            have h1 := HVB.out x hx
            have h2 := HFL.out x (HYIN.out x e)
            omega)).1
          have HST : Hid (EngA Q y { E with com := E.com ++ [l] } (w3.setCell ⟨y, 2, none⟩ (.slice (some ⟨g3, 0, none⟩) (E.com.length + 1) c')) f4 ∧ f4.Nodup ∧ (∀ x ∈ f4, x ∈ f ∨ w'.heap.size ≤ x) ∧ Fr f w' (w3.setCell ⟨y, 2, none⟩ (.slice (some ⟨g3, 0, none⟩) (E.com.length + 1) c')) ∧ (w3.setCell ⟨y, 2, none⟩ (.slice (some ⟨g3, 0, none⟩) (E.com.length + 1) c')).ownsRow 0 107 2 (.slice av l.length cv') l.length (wrCells l)) := hid (by
            refine ⟨hE4, hn4, fun x hx => ?_, ((HF0.out).mono (fun k hk => by cases hk)).trans (hfr4.mono (fun k hk => .inl (HYIN.out k hk))), hv4⟩
            rcases hs4 x hx with h | h | h
            · exact .inl h
            · exact .inr (HVB.out x h)
            · exact .inr (Nat.le_trans HF0.out.size h))
          have HST' : Hid (Laying Q y E l (.slice av l.length cv') f w' 0 (w3.setCell ⟨y, 2, none⟩ (.slice (some ⟨g3, 0, none⟩) (E.com.length + 1) c')) f4) := hid (by unfold Laying; rw [E2_zero]; exact HST.out)
          have HROOM := hid hroom
          obtain ⟨j0, hj0, hjz0, hjz1, hjz2⟩ := info_parts Tryz.info124
          generalize w3.setCell ⟨y, 2, none⟩ (.slice (some ⟨g3, 0, none⟩) (E.com.length + 1) c') = w4 at HST' ⊢
          clear hfr3 hfr4 hE4 hs4 hv4 hown3 hg3 hb3 d3 z3 hva HGO HST hn4 x1 x2 x3 HVR HVB HYIN HYB HFL hyn hylr ycr hvl HCL HNCi HFW HF0
          go_loopw [11] (fun t wr2 => ∃ (i : Nat) (f5 : List Nat), i ≤ l.length ∧ t = .int .i64 i ∧ Laying Q y E l (.slice av l.length cv') f w' i wr2 f5) (fun t _ => l.length - (intOf t).toNat)
          case atStart => exact ⟨0, f4, Nat.zero_le _, rfl, HST'.out⟩
          case round =>
            obtain ⟨i2, f5, hi2, rfl, hlay⟩ := hrel
            have HLAY := hid hlay
            by_cases hlt2 : i2 < l.length
            · obtain ⟨rv3, ac3, cc3, ak3, ck3, ov3, KC, yb3, ykr3, hnext⟩ := hlay.next hQ hQw hlt2
              have y2 : wr.cell? ⟨y, 2, none⟩ = some (.slice ac3 (E.com.length + 1) cc3) := by rw [cell_of_row _ _ _ _ _ _ yb3]; rfl
              have y3 : wr.cell? ⟨y, 3, none⟩ = some (.slice ak3 (E.kept.length + i2) ck3) := by rw [cell_of_row _ _ _ _ _ _ yb3]; rfl
              obtain ⟨gv, rfl, _, hgb2, hgl2, hcell2⟩ := own_cell hlay.2.2.2.2 (by omega)
              have x4 := hcell2 _ _ (wrCells_at l i2 hlt2).1
              have x5 := hcell2 _ _ (wrCells_at l i2 hlt2).2
              have hyn3 : (Value.slice ak3 (E.kept.length + i2) ck3).ownBlock ≠ some y := own_ne_ty ykr3 yb3 (by decide)
              have hyl3 := lt_of_block yb3
              have hylz : y ≠ wr.heap.size := by omega
              have hgvz : gv ≠ wr.heap.size := by omega
              have HYB3 := hid yb3
              have HNX := hid hnext
              obtain ⟨p0, hp0⟩ : ∃ p0, p0 = l[i2] := ⟨_, rfl⟩
              rw [← hp0] at x4 x5 HNX
              obtain ⟨KL, hKL⟩ : ∃ KL, KL = E.kept.length + i2 := ⟨_, rfl⟩
              have hkl : KL ≤ 1100 := by omega
              rw [← hKL] at y3 ykr3 hyn3 HYB3 HNX
              obtain ⟨CL, hCL⟩ : ∃ CL, CL = E.com.length := ⟨_, rfl⟩
              have hcl3 : CL ≤ 9223372036854775806 := by omega
              rw [← hCL] at y2 HYB3 HNX
              have HHI := hid hi2
              have hi20 : (0 : Int) ≤ (i2 : Int) := by omega
              have hi21 : (i2 : Int) < (l.length : Int) := by omega
              have hle : l.length ≤ 60 := hlen60
              clear hlay hcell2 yb3 hnext hp0 hKL hCL hlen60 c1 c2 c3 s1 hcl2 hcl hkept hroom hyl q hl0 hi hi2 hlt hW
              go_wp2_with fail
              go_region_law (
                refine step_append_lies _ rfl (.tmp 103) (.tmp 114) 37 rfl 0 124 j0 (.agg #[.int .i64 0, .string ByteArray.empty, .int .i64 0]) 3 32 Tryz.underlying37 hj0 hjz0 hjz1 hjz2 rfl (by decide) (.slice ak3 KL ck3) KL KC (by simp [Act.eval]) (own_heap (ykr3.alloc _) rfl) ⟨wr.heap.size, 0, none⟩ 1 1 [.int .i64 ((CL : Int) + 1), .string p0.1, .int .i64 p0.2] (by simp [Act.eval]) rfl (fun j u hj => news_at1 hj) (fun u hu => by simp at hu; rcases hu with h | h | h <;> subst h <;> rfl) (by decide) (by unfold maxLen; omega) (by omega) (Nat.zero_le _) _ rfl (fun g5 c5 w5 hown5 hg5 hva5 hvl5 => ?_)
                have hb5 : w5.heap[y]? = some (.cells #[rv3, .int .i64 E.room, .slice ac3 (CL + 1) cc3, .slice ak3 KL ck3, ov3, .int .i64 E.opened] 40 (0, 0)) := (hg5.block y (by simp; omega) (fun e => hyn3 e.symm)).trans ((Below.heap_alloc _ _ _ (by simpa using hyl3)).trans HYB3.out)
                have d5 : w5.cell? ⟨y, 3, none⟩ = some (.slice ak3 KL ck3) := by simp [World.cell?, hb5]
                have z5 : w5.frozen? ⟨y, 3, none⟩ = false := by simp [World.frozen?, hb5])
              all_goals
                have HFIN := hid (HNX.out g5 c5 w5 (by
                  rcases hva5 with h | h
                  · exact .inl h
                  · exact .inr (by rw [h]; simp)) hown5 (((((Fr.refl [] wr).drewN 1).alloc _).mono (fun k hk => by cases hk)).trans (Fr.grown hg5)))
                clear hown5 hg5 hb5 d5 z5 hva5 x4 x5 y2 y3 HNX HYB3 ykr3
                go_wp2_with fail
                go_roundw
                case rel =>
                  obtain ⟨f6, h6⟩ := HFIN.out
                  exact ⟨i2 + 1, f6, by omega, by go_num, h6⟩
                case measure => simp [intOf]; omega
            · have hend := rend_any hQ hQw n hlay.1 hlay.2.1 (by simpa [E2] using hW.opnLen)
              rw [E2_all E l (by omega)] at hend
              have HEND2 := hid hend
              clear hlay hend
              go_wp2_with fail
              go_at_call 52
              refine HEND2.out.mono ?_
              rintro e w7 ⟨rfl, ht7⟩
              have HT7 := hid ht7
              obtain ⟨f7', hE7, _, _, _⟩ := ht7
              obtain ⟨rv7, cv7, kv7, ov7, cs7, ps7, _, _, ⟨hb7, _⟩, ⟨_, _, _, ⟨_, _, ⟨hcr7, _⟩, _⟩, _⟩, _⟩ := hE7
              obtain ⟨ac7, mc7, cc7, rfl⟩ := own_slice hcr7
              have em7 : mc7 = E.com.length + 1 := by have := own_len hcr7; simpa [rendF, Eng.commit] using this
              subst em7
              have y7 : w7.cell? ⟨y, 2, none⟩ = some (.slice ac7 (E.com.length + 1) cc7) := by rw [cell_of_row _ _ _ _ _ _ hb7]; rfl
              clear hb7 hcr7
              go_wp2_with fail
              go_ret2
              obtain ⟨e1, e2⟩ := HRE.out
              cases e1
              refine ⟨rfl, ?_⟩
              rw [e2]
              obtain ⟨f8, a, nn, s, r⟩ := HT7.out
              obtain ⟨_, _, hs5, hfr5, _⟩ := HLAY.out
              refine ⟨f8, a, nn, fun x hx => ?_, hfr5.then r hs5⟩
              rcases s x hx with h | h
              · exact hs5 x h
              · exact .inr (Nat.le_trans hfr5.size h)
  · have HRE : Hid ((r1, r2) = ((0 : Int), (6 : Int)) ∧ EE = E) := hid (by rw [HRES.out.1, HRES.out.2]; unfold rcommitF; rw [findS_none hno]; exact ⟨rfl, rfl⟩)
    clear hno HF
    go_wp2
    go_ret2
    obtain ⟨e1, e2⟩ := HRE.out
    cases e1
    rw [e2]
    exact ⟨rfl, EngTo.same HE.out hn⟩

end Go.Proofs.YthlhbjnkohinmaaGreat
