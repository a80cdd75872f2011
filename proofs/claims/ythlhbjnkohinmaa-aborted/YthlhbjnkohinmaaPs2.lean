/- The program's sessions in memory: what writes them. -/
import Derived.Test.YthlhbjnkohinmaaPs1
import Derived.Test.YthlhbjnkohinmaaMem
import Derived.Deep.RegionLaw
import Derived.Deep.MidRow
import Derived.Handy
namespace Go.Proofs.Ythlhbjnkohinmaa
open Go.RowKit

/-- What a write leaves in memory. -/
def recW (w : World) (b o c : Nat) (f : Bool) (v n t : Int) : World := ((((w.setCell ⟨b, o + 2, none⟩ (.int .i64 n)).setCell ⟨b, o + 3 + c * 4, none⟩ (.bool true)).setCell ⟨b, o + 3 + c * 4 + 1, none⟩ (.bool f)).setCell ⟨b, o + 3 + c * 4 + 2, none⟩ (.int .i64 v)).setCell ⟨b, o + 3 + c * 4 + 3, none⟩ (.int .i64 t)

set_option maxRecDepth 20000 in
set_option maxHeartbeats 1000000 in
theorem record_any (b o c : Nat) (f : Bool) (v n t : Int) (w : World) (hc : c < 60) (u0 u1 u2 u3 : Value)
    (m0 : w.cell? ⟨b, o + 1, none⟩ = some (.int .i64 t)) (m1 : w.cell? ⟨b, o + 2, none⟩ = some (.int .i64 n)) (hn : 0 ≤ n) (ht : 0 ≤ t) (hnt : t + (n + 1) ≤ 9223372036854775807)
    (c0 : w.cell? ⟨b, o + 3 + c * 4, none⟩ = some u0) (c1 : w.cell? ⟨b, o + 3 + c * 4 + 1, none⟩ = some u1) (c2 : w.cell? ⟨b, o + 3 + c * 4 + 2, none⟩ = some u2) (c3 : w.cell? ⟨b, o + 3 + c * 4 + 3, none⟩ = some u3)
    (zz : ∀ i, w.frozen? ⟨b, i, none⟩ = false) (hb : b < w.heap.size) :
    Calls Try.prog 70 #[.pointer (some ⟨b, o, none⟩), .int .i64 c, .agg #[.bool f, .int .i64 v]] w fun e w' => e = .returned (.tuple #[]) ∧
      ∃ m, w' = ((recW w b o c f v (n + 1) (t + (n + 1))).alloc (.cells #[.bool f, .int .i64 v] 76)).drewN m := by
  have hbz : b ≠ w.heap.size := by omega
  have hi0 : (0 : Int) ≤ (c : Int) := by omega
  have hi1 : (c : Int) < 60 := by omega
  have z0 := zz (o + 2)
  have z1 := zz (o + 3 + c * 4)
  have z2 := zz (o + 3 + c * 4 + 1)
  have z3 := zz (o + 3 + c * 4 + 2)
  have z4 := zz (o + 3 + c * 4 + 3)
  unfold recW
  go_enter Try.func70, Try.ntmps70
  go_wp2_with fail
  go_region
  all_goals go_wp2_with fail
  all_goals go_returns
  all_goals exact ⟨rfl, 1, rfl⟩

/-- Block b is changed from o on, for n cells; nothing else is, but for new blocks. -/
structure Chg (w w' : World) (b o n : Nat) : Prop where
  fr : Fr [b] w w'
  cell : ∀ i, (i < o ∨ o + n ≤ i) → w'.cell? ⟨b, i, none⟩ = w.cell? ⟨b, i, none⟩
  blk : ∀ {cs : Array Value} {t : TypeId}, w.heap[b]? = some (.cells cs t (0, 0)) → ∃ cs', w'.heap[b]? = some (.cells cs' t (0, 0))
theorem Chg.refl (w : World) (b o n : Nat) : Chg w w b o n := ⟨Fr.refl _ _, fun _ _ => rfl, fun h => ⟨_, h⟩⟩
theorem Chg.trans {w w1 w2 : World} {b o n : Nat} (h : Chg w w1 b o n) (k : Chg w1 w2 b o n) : Chg w w2 b o n :=
  ⟨h.fr.trans k.fr, fun i hi => (k.cell i hi).trans (h.cell i hi), fun hb => by obtain ⟨_, h1⟩ := h.blk hb; exact k.blk h1⟩
theorem Chg.wide {w w' : World} {b o n o' n' : Nat} (h : Chg w w' b o n) (h1 : o' ≤ o) (h2 : o + n ≤ o' + n') : Chg w w' b o' n' :=
  ⟨h.fr, fun i hi => h.cell i (by omega), h.blk⟩
theorem Chg.drewN {w w' : World} {b o n : Nat} (h : Chg w w' b o n) (m : Nat) : Chg w (w'.drewN m) b o n := ⟨h.fr.drewN m, h.cell, h.blk⟩
theorem blk_setCell {w : World} {b : Nat} {cs : Array Value} {t : TypeId} (h : w.heap[b]? = some (.cells cs t (0, 0))) (i : Nat) (u : Value) : (w.setCell ⟨b, i, none⟩ u).heap[b]? = some (.cells (cs.setIfInBounds i u) t (0, 0)) := Go.heap_setCell_same w b i _ _ _ h
theorem Chg.set {w w' : World} {b o n : Nat} (h : Chg w w' b o n) {i : Nat} (h1 : o ≤ i) (h2 : i < o + n) (u : Value) : Chg w (w'.setCell ⟨b, i, none⟩ u) b o n :=
  ⟨h.fr.set (.inl (by simp)) u, fun j hj => by
    rw [World.cell?_setCell_other _ _ _ _ (by intro e; injection e with e1 e2; omega)]
    exact h.cell j hj, fun hb => by
    obtain ⟨cs', h3⟩ := h.blk hb
    exact ⟨_, blk_setCell h3 i u⟩⟩
theorem Chg.alloc {w w' : World} {b o n : Nat} (h : Chg w w' b o n) (hb : b < w.heap.size) (ob : Obj) : Chg w (w'.alloc ob) b o n := by
  have hb' : b < w'.heap.size := Nat.lt_of_lt_of_le hb h.fr.size
  refine ⟨h.fr.alloc ob, fun j hj => ?_, fun hk => ?_⟩
  · rw [World.cell?_alloc_lt _ _ _ (by simpa using hb')]
    exact h.cell j hj
  · obtain ⟨cs', h3⟩ := h.blk hk
    exact ⟨cs', (Below.heap_alloc w' ob b hb').trans h3⟩

theorem SesAt.other {w w' : World} {b o a n : Nat} {S : PSes} (h : SesAt w b o S) (hc : Chg w w' b a n) (hd : o + 244 ≤ a ∨ a + n ≤ o) : SesAt w' b o S :=
  ⟨(hc.cell _ (by omega)).trans h.num, (hc.cell _ (by omega)).trans h.snap, (hc.cell _ (by omega)).trans h.cnt, fun c hl => (hc.cell _ (by omega)).trans (h.made c hl), fun c hl => (hc.cell _ (by omega)).trans (h.filled c hl), fun c hl => (hc.cell _ (by omega)).trans (h.val c hl), fun c hl => (hc.cell _ (by omega)).trans (h.tm c hl), (hc.cell _ (by omega)).trans h.mks, h.ok⟩
theorem SesAt.fr {w w' : World} {b o : Nat} {S : PSes} {F : List Nat} (h : SesAt w b o S) (hf : Fr F w w') (hb : b < w.heap.size) (hF : b ∉ F) : SesAt w' b o S := by
  have e : ∀ i, w'.cell? ⟨b, i, none⟩ = w.cell? ⟨b, i, none⟩ := fun i => by simp only [World.cell?, hf.block b hb hF]
  exact ⟨(e _).trans h.num, (e _).trans h.snap, (e _).trans h.cnt, fun c hl => (e _).trans (h.made c hl), fun c hl => (e _).trans (h.filled c hl), fun c hl => (e _).trans (h.val c hl), fun c hl => (e _).trans (h.tm c hl), (e _).trans h.mks, h.ok⟩

/-- What a write to a cell leaves. -/
structure PutTo (b o : Nat) (S' : PSes) (w w' : World) : Prop where
  ses : SesAt w' b o S'
  chg : Chg w w' b o 244

theorem hasW_put (S : PSes) {c : Nat} (hc : c < 60) (v : Option Int) : hasW (S.put c v) = true := by
  unfold hasW
  rw [List.any_eq_true]
  exact ⟨c, by simpa using hc, by simp [PSes.put, upd]⟩
theorem PSes.ok.put {S : PSes} (h : S.ok) {c : Nat} (hc : c < 60) (v : Option Int) : (S.put c v).ok := by
  have h0 := h.1
  refine ⟨?_, ?_⟩
  · show 0 ≤ S.made + 1
    omega
  · rw [hasW_put S hc v]
    show decide (0 < S.made + 1) = true
    exact decide_eq_true (by omega)

theorem cell_set_ne {w : World} {b i j : Nat} (h : i ≠ j) (u : Value) : (w.setCell ⟨b, j, none⟩ u).cell? ⟨b, i, none⟩ = w.cell? ⟨b, i, none⟩ := World.cell?_setCell_other _ _ _ _ (by intro e; injection e with e1 e2; omega)
theorem cell_set_eq {w : World} {b i : Nat} {v : Value} (h : w.cell? ⟨b, i, none⟩ = some v) (u : Value) : (w.setCell ⟨b, i, none⟩ u).cell? ⟨b, i, none⟩ = some u := World.cell?_setCell_same _ _ _ h

set_option maxHeartbeats 1000000 in
theorem put_to {b o c : Nat} {S : PSes} {w : World} {cs : Array Value} {t : TypeId} (hb : w.heap[b]? = some (.cells cs t (0, 0))) (h : SesAt w b o S) (hc : c < 60) (v : Option Int) (ob : Obj) (m : Nat) :
    PutTo b o (S.put c v) w (((recW w b o c v.isSome (v.getD 0) (S.made + 1) (S.snap + (S.made + 1))).alloc ob).drewN m) := by
  have hbl := lt_of_block hb
  have hsz : (recW w b o c v.isSome (v.getD 0) (S.made + 1) (S.snap + (S.made + 1))).heap.size = w.heap.size := by simp [recW, World.setCell]
  have hch : Chg w (((recW w b o c v.isSome (v.getD 0) (S.made + 1) (S.snap + (S.made + 1))).alloc ob).drewN m) b o 244 := by
    unfold recW
    exact (((((((Chg.refl w b o 244).set (by omega) (by omega) _).set (by omega) (by omega) _).set (by omega) (by omega) _).set (by omega) (by omega) _).set (by omega) (by omega) _).alloc hbl ob).drewN m
  have e0 : ∀ (R : World), R.heap.size = w.heap.size → ∀ i, ((R.alloc ob).drewN m).cell? ⟨b, i, none⟩ = R.cell? ⟨b, i, none⟩ := fun R hR i => by
    show World.cell? (World.alloc _ _) _ = _
    exact World.cell?_alloc_lt _ _ _ (by rw [hR]; exact hbl)
  have e := e0 _ hsz
  have far : ∀ i, i ≠ o + 2 → i ≠ o + 3 + c * 4 → i ≠ o + 3 + c * 4 + 1 → i ≠ o + 3 + c * 4 + 2 → i ≠ o + 3 + c * 4 + 3 → (recW w b o c v.isSome (v.getD 0) (S.made + 1) (S.snap + (S.made + 1))).cell? ⟨b, i, none⟩ = w.cell? ⟨b, i, none⟩ := by
    intro i h1 h2 h3 h4 h5
    unfold recW
    rw [cell_set_ne h5, cell_set_ne h4, cell_set_ne h3, cell_set_ne h2, cell_set_ne h1]
  refine ⟨⟨?_, ?_, ?_, fun j hj => ?_, fun j hj => ?_, fun j hj => ?_, fun j hj => ?_, ?_, h.ok.put hc v⟩, hch⟩
  · rw [e, far _ (by omega) (by omega) (by omega) (by omega) (by omega)]; exact h.num
  · rw [e, far _ (by omega) (by omega) (by omega) (by omega) (by omega)]; exact h.snap
  · rw [e]
    unfold recW
    rw [cell_set_ne (by omega), cell_set_ne (by omega), cell_set_ne (by omega), cell_set_ne (by omega), cell_set_eq h.cnt]
    rfl
  · show World.cell? _ _ = some (Value.bool (wMade (upd S.wr c (some v) j)))
    rw [e]
    by_cases ej : j = c
    · subst ej
      rw [upd_same]
      unfold recW
      rw [cell_set_ne (by omega), cell_set_ne (by omega), cell_set_ne (by omega), cell_set_eq (v := .bool (wMade (S.wr j))) (by rw [cell_set_ne (by omega)]; exact h.made j hj)]
      rfl
    · rw [upd_ne _ _ _ ej, far _ (by omega) (by omega) (by omega) (by omega) (by omega)]; exact h.made j hj
  · show World.cell? _ _ = some (Value.bool (wFilled (upd S.wr c (some v) j)))
    rw [e]
    by_cases ej : j = c
    · subst ej
      rw [upd_same]
      unfold recW
      rw [cell_set_ne (by omega), cell_set_ne (by omega), cell_set_eq (v := .bool (wFilled (S.wr j))) (by rw [cell_set_ne (by omega), cell_set_ne (by omega)]; exact h.filled j hj)]
      cases v <;> rfl
    · rw [upd_ne _ _ _ ej, far _ (by omega) (by omega) (by omega) (by omega) (by omega)]; exact h.filled j hj
  · show World.cell? _ _ = some (Value.int .i64 (wVal (upd S.wr c (some v) j)))
    rw [e]
    by_cases ej : j = c
    · subst ej
      rw [upd_same]
      unfold recW
      rw [cell_set_ne (by omega), cell_set_eq (v := .int .i64 (wVal (S.wr j))) (by rw [cell_set_ne (by omega), cell_set_ne (by omega), cell_set_ne (by omega)]; exact h.val j hj)]
      cases v <;> rfl
    · rw [upd_ne _ _ _ ej, far _ (by omega) (by omega) (by omega) (by omega) (by omega)]; exact h.val j hj
  · show World.cell? _ _ = some (Value.int .i64 (upd S.tm c (S.snap + (S.made + 1)) j))
    rw [e]
    by_cases ej : j = c
    · subst ej
      rw [upd_same]
      unfold recW
      rw [cell_set_eq (v := .int .i64 (S.tm j)) (by rw [cell_set_ne (by omega), cell_set_ne (by omega), cell_set_ne (by omega), cell_set_ne (by omega)]; exact h.tm j hj)]
    · rw [upd_ne _ _ _ ej, far _ (by omega) (by omega) (by omega) (by omega) (by omega)]; exact h.tm j hj
  · rw [e, far _ (by omega) (by omega) (by omega) (by omega) (by omega)]; exact h.mks

theorem frozen_blk {w : World} {b : Nat} {cs : Array Value} {t : TypeId} (hb : w.heap[b]? = some (.cells cs t (0, 0))) (i : Nat) : w.frozen? ⟨b, i, none⟩ = false := by simp [World.frozen?, hb]

/-- One write more can be counted. -/
def PSes.more (S : PSes) : Prop := 0 ≤ S.snap ∧ S.snap + (S.made + 1) ≤ 9223372036854775807
theorem record_to (b o c : Nat) (v : Option Int) (S : PSes) (w : World) (hc : c < 60) {cs : Array Value} {t : TypeId} (hb : w.heap[b]? = some (.cells cs t (0, 0))) (h : SesAt w b o S) (hm : S.more) :
    Calls Try.prog 70 #[.pointer (some ⟨b, o, none⟩), .int .i64 c, .agg #[.bool v.isSome, .int .i64 (v.getD 0)]] w fun e w' => e = .returned (.tuple #[]) ∧ PutTo b o (S.put c v) w w' := by
  refine (record_any b o c v.isSome (v.getD 0) S.made S.snap w hc _ _ _ _ h.snap h.cnt h.ok.1 hm.1 hm.2 (h.made c hc) (h.filled c hc) (h.val c hc) (h.tm c hc) (frozen_blk hb) (lt_of_block hb)).mono ?_
  rintro e w' ⟨rfl, n, rfl⟩
  exact ⟨rfl, put_to hb h hc v _ _⟩

set_option maxRecDepth 20000 in
theorem sput_any (b o c : Nat) (v : Int) (S : PSes) (w : World) (hc : c < 60) {cs : Array Value} {t : TypeId} (hb : w.heap[b]? = some (.cells cs t (0, 0))) (h : SesAt w b o S) (hm : S.more) :
    Calls Try.prog 49 #[.pointer (some ⟨b, o, none⟩), .int .i64 c, .int .i64 v] w fun e w' => e = .returned (.tuple #[]) ∧ PutTo b o (S.put c (some v)) w w' := by
  have HR := hid (record_to b o c (some v) S w hc hb h hm)
  clear hb h hm
  go_enter Try.func49, Try.ntmps49
  go_wp2_with fail
  go_at_call 70
  refine HR.out.mono ?_
  rintro e w' ⟨rfl, h⟩
  have H := hid h
  clear h
  go_wp2
  go_returns
  exact ⟨rfl, H.out⟩

set_option maxRecDepth 20000 in
theorem sclear_any (b o c : Nat) (S : PSes) (w : World) (hc : c < 60) {cs : Array Value} {t : TypeId} (hb : w.heap[b]? = some (.cells cs t (0, 0))) (h : SesAt w b o S) (hm : S.more) :
    Calls Try.prog 51 #[.pointer (some ⟨b, o, none⟩), .int .i64 c] w fun e w' => e = .returned (.tuple #[]) ∧ PutTo b o (S.put c none) w w' := by
  have HR := hid (record_to b o c none S w hc hb h hm)
  clear hb h hm
  go_enter Try.func51, Try.ntmps51
  go_wp2_with fail
  go_at_call 70
  refine HR.out.mono ?_
  rintro e w' ⟨rfl, h⟩
  have H := hid h
  clear h
  go_wp2
  go_returns
  exact ⟨rfl, H.out⟩

end Go.Proofs.Ythlhbjnkohinmaa
