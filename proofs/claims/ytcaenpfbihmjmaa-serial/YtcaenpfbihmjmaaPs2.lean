/- The program's sessions in memory: what writes them. -/
import Derived.Test.YtcaenpfbihmjmaaPs1
import Derived.Test.YtcaenpfbihmjmaaMem
import Derived.Deep.RegionLaw
import Derived.Deep.MidRow
import Derived.Handy
namespace Go.Proofs.Ytcaenpfbihmjmaa
open Go.RowKit

set_option maxRecDepth 20000 in
set_option maxHeartbeats 1000000 in
theorem record_any (b o c : Nat) (f : Bool) (v : Int) (w : World) (hc : c < 60) (u0 u1 u2 : Value)
    (c0 : w.cell? ⟨b, o + 2 + c * 3, none⟩ = some u0) (c1 : w.cell? ⟨b, o + 2 + c * 3 + 1, none⟩ = some u1) (c2 : w.cell? ⟨b, o + 2 + c * 3 + 2, none⟩ = some u2)
    (z0 : w.frozen? ⟨b, o + 2 + c * 3, none⟩ = false) (z1 : w.frozen? ⟨b, o + 2 + c * 3 + 1, none⟩ = false) (z2 : w.frozen? ⟨b, o + 2 + c * 3 + 2, none⟩ = false) (hb : b < w.heap.size) :
    Calls Try.prog 49 #[.pointer (some ⟨b, o, none⟩), .int .i64 c, .agg #[.bool f, .int .i64 v]] w fun e w' => e = .returned (.tuple #[]) ∧
      ∃ n, w' = ((((w.setCell ⟨b, o + 2 + c * 3, none⟩ (.bool true)).setCell ⟨b, o + 2 + c * 3 + 1, none⟩ (.bool f)).setCell ⟨b, o + 2 + c * 3 + 2, none⟩ (.int .i64 v)).alloc (.cells #[.bool f, .int .i64 v] 74)).drewN n := by
  have hbz : b ≠ w.heap.size := by omega
  have hi0 : (0 : Int) ≤ (c : Int) := by omega
  have hi1 : (c : Int) < 60 := by omega
  go_enter Try.func49, Try.ntmps49
  go_wp2_with fail
  go_region
  all_goals go_wp2_with fail
  all_goals go_returns
  all_goals exact ⟨rfl, 1, rfl⟩

/-- Block b is changed from o on, for n cells; nothing else is, but for new blocks. -/
structure Chg (w w' : World) (b o n : Nat) : Prop where
  fr : Fr [b] w w'
  cell : ∀ i, (i < o ∨ o + n ≤ i) → w'.cell? ⟨b, i, none⟩ = w.cell? ⟨b, i, none⟩
  blk : ∀ {cs : Array Value} {t : TypeId}, w.heap[b]? = some (.cells cs t (0, 0)) → ∃ cs', w'.heap[b]? = some (.cells cs' t (0, 0))
theorem Chg.refl (w : World) (b o n : Nat) : Chg w w b o n := ⟨Fr.refl _ _, fun _ _ => rfl, fun h => ⟨_, h⟩⟩
theorem Chg.trans {w w1 w2 : World} {b o n : Nat} (h : Chg w w1 b o n) (k : Chg w1 w2 b o n) : Chg w w2 b o n :=
  ⟨h.fr.trans k.fr, fun i hi => (k.cell i hi).trans (h.cell i hi), fun hb => by obtain ⟨_, h1⟩ := h.blk hb; exact k.blk h1⟩
theorem Chg.wide {w w' : World} {b o n o' n' : Nat} (h : Chg w w' b o n) (h1 : o' ≤ o) (h2 : o + n ≤ o' + n') : Chg w w' b o' n' :=
  ⟨h.fr, fun i hi => h.cell i (by omega), h.blk⟩
theorem Chg.drewN {w w' : World} {b o n : Nat} (h : Chg w w' b o n) (m : Nat) : Chg w (w'.drewN m) b o n := ⟨h.fr.drewN m, h.cell, h.blk⟩
theorem blk_setCell {w : World} {b : Nat} {cs : Array Value} {t : TypeId} (h : w.heap[b]? = some (.cells cs t (0, 0))) (i : Nat) (u : Value) : (w.setCell ⟨b, i, none⟩ u).heap[b]? = some (.cells (cs.setIfInBounds i u) t (0, 0)) := Go.heap_setCell_same w b i _ _ _ h
theorem Chg.set {w w' : World} {b o n : Nat} (h : Chg w w' b o n) {i : Nat} (h1 : o ≤ i) (h2 : i < o + n) (u : Value) : Chg w (w'.setCell ⟨b, i, none⟩ u) b o n :=
  ⟨h.fr.set (.inl (by simp)) u, fun j hj => by
    rw [World.cell?_setCell_other _ _ _ _ (by intro e; injection e with e1 e2; omega)]
    exact h.cell j hj, fun hb => by
    obtain ⟨cs', h3⟩ := h.blk hb
    exact ⟨_, blk_setCell h3 i u⟩⟩
theorem Chg.alloc {w w' : World} {b o n : Nat} (h : Chg w w' b o n) (hb : b < w.heap.size) (ob : Obj) : Chg w (w'.alloc ob) b o n := by
  have hb' : b < w'.heap.size := Nat.lt_of_lt_of_le hb h.fr.size
  refine ⟨h.fr.alloc ob, fun j hj => ?_, fun hk => ?_⟩
  · rw [World.cell?_alloc_lt _ _ _ (by simpa using hb')]
    exact h.cell j hj
  · obtain ⟨cs', h3⟩ := h.blk hk
    exact ⟨cs', (Below.heap_alloc w' ob b hb').trans h3⟩

theorem SesAt.other {w w' : World} {b o a n : Nat} {S : PSes} (h : SesAt w b o S) (hc : Chg w w' b a n) (hd : o + 182 ≤ a ∨ a + n ≤ o) : SesAt w' b o S :=
  ⟨(hc.cell _ (by omega)).trans h.num, (hc.cell _ (by omega)).trans h.snap, fun c hl => (hc.cell _ (by omega)).trans (h.made c hl), fun c hl => (hc.cell _ (by omega)).trans (h.filled c hl), fun c hl => (hc.cell _ (by omega)).trans (h.val c hl)⟩
theorem SesAt.fr {w w' : World} {b o : Nat} {S : PSes} {F : List Nat} (h : SesAt w b o S) (hf : Fr F w w') (hb : b < w.heap.size) (hF : b ∉ F) : SesAt w' b o S := by
  have e : ∀ i, w'.cell? ⟨b, i, none⟩ = w.cell? ⟨b, i, none⟩ := fun i => by simp only [World.cell?, hf.block b hb hF]
  exact ⟨(e _).trans h.num, (e _).trans h.snap, fun c hl => (e _).trans (h.made c hl), fun c hl => (e _).trans (h.filled c hl), fun c hl => (e _).trans (h.val c hl)⟩

/-- What a write to a cell leaves. -/
structure PutTo (b o : Nat) (S' : PSes) (w w' : World) : Prop where
  ses : SesAt w' b o S'
  chg : Chg w w' b o 182

theorem put_to {b o c : Nat} {S : PSes} {w : World} {cs : Array Value} {t : TypeId} (hb : w.heap[b]? = some (.cells cs t (0, 0))) (h : SesAt w b o S) (hc : c < 60) (v : Option Int) (f : Bool) (x : Int) (hf : f = v.isSome) (hx : x = v.getD 0) (ob : Obj) (m : Nat) :
    PutTo b o (S.put c v) w (((((w.setCell ⟨b, o + 2 + c * 3, none⟩ (.bool true)).setCell ⟨b, o + 2 + c * 3 + 1, none⟩ (.bool f)).setCell ⟨b, o + 2 + c * 3 + 2, none⟩ (.int .i64 x)).alloc ob).drewN m) := by
  have hbl := lt_of_block hb
  have hch : Chg w (((((w.setCell ⟨b, o + 2 + c * 3, none⟩ (.bool true)).setCell ⟨b, o + 2 + c * 3 + 1, none⟩ (.bool f)).setCell ⟨b, o + 2 + c * 3 + 2, none⟩ (.int .i64 x)).alloc ob).drewN m) b (o + 2 + c * 3) 3 :=
    (((((Chg.refl w b _ 3).set (by omega) (by omega) _).set (by omega) (by omega) _).set (by omega) (by omega) _).alloc hbl ob).drewN m
  obtain ⟨w', hw'⟩ : ∃ w', w' = (((((w.setCell ⟨b, o + 2 + c * 3, none⟩ (.bool true)).setCell ⟨b, o + 2 + c * 3 + 1, none⟩ (.bool f)).setCell ⟨b, o + 2 + c * 3 + 2, none⟩ (.int .i64 x)).alloc ob).drewN m) := ⟨_, rfl⟩
  have n0 : w'.cell? ⟨b, o + 2 + c * 3, none⟩ = some (.bool true) := by
    rw [hw']
    show World.cell? (World.alloc _ _) _ = _
    rw [World.cell?_alloc_lt _ _ _ (by simpa [World.setCell] using hbl), World.cell?_setCell_other _ _ _ _ (by intro e; simp at e), World.cell?_setCell_other _ _ _ _ (by intro e; simp at e), World.cell?_setCell_same _ _ _ (h.made c hc)]
  have n1 : w'.cell? ⟨b, o + 2 + c * 3 + 1, none⟩ = some (.bool f) := by
    rw [hw']
    show World.cell? (World.alloc _ _) _ = _
    rw [World.cell?_alloc_lt _ _ _ (by simpa [World.setCell] using hbl), World.cell?_setCell_other _ _ _ _ (by intro e; simp at e)]
    rw [World.cell?_setCell_same _ _ _ (u := .bool (wFilled (S.wr c))) (by rw [World.cell?_setCell_other _ _ _ _ (by intro e; simp at e)]; exact h.filled c hc)]
  have n2 : w'.cell? ⟨b, o + 2 + c * 3 + 2, none⟩ = some (.int .i64 x) := by
    rw [hw']
    show World.cell? (World.alloc _ _) _ = _
    rw [World.cell?_alloc_lt _ _ _ (by simpa [World.setCell] using hbl)]
    rw [World.cell?_setCell_same _ _ _ (u := .int .i64 (wVal (S.wr c))) (by rw [World.cell?_setCell_other _ _ _ _ (by intro e; simp at e), World.cell?_setCell_other _ _ _ _ (by intro e; simp at e)]; exact h.val c hc)]
  rw [← hw'] at hch ⊢
  refine ⟨⟨(hch.cell _ (by omega)).trans h.num, (hch.cell _ (by omega)).trans h.snap, fun j hj => ?_, fun j hj => ?_, fun j hj => ?_⟩, hch.wide (by omega) (by omega)⟩
  · show World.cell? _ _ = some (Value.bool (wMade (upd S.wr c (some v) j)))
    by_cases e : j = c
    · subst e; rw [upd_same, n0]; rfl
    · rw [upd_ne _ _ _ e, hch.cell _ (by omega)]; exact h.made j hj
  · show World.cell? _ _ = some (Value.bool (wFilled (upd S.wr c (some v) j)))
    by_cases e : j = c
    · subst e; rw [upd_same, n1, hf]; cases v <;> rfl
    · rw [upd_ne _ _ _ e, hch.cell _ (by omega)]; exact h.filled j hj
  · show World.cell? _ _ = some (Value.int .i64 (wVal (upd S.wr c (some v) j)))
    by_cases e : j = c
    · subst e; rw [upd_same, n2, hx]; cases v <;> rfl
    · rw [upd_ne _ _ _ e, hch.cell _ (by omega)]; exact h.val j hj

theorem frozen_blk {w : World} {b : Nat} {cs : Array Value} {t : TypeId} (hb : w.heap[b]? = some (.cells cs t (0, 0))) (i : Nat) : w.frozen? ⟨b, i, none⟩ = false := by simp [World.frozen?, hb]

theorem record_to (b o c : Nat) (v : Option Int) (S : PSes) (w : World) (hc : c < 60) {cs : Array Value} {t : TypeId} (hb : w.heap[b]? = some (.cells cs t (0, 0))) (h : SesAt w b o S) :
    Calls Try.prog 49 #[.pointer (some ⟨b, o, none⟩), .int .i64 c, .agg #[.bool v.isSome, .int .i64 (v.getD 0)]] w fun e w' => e = .returned (.tuple #[]) ∧ PutTo b o (S.put c v) w w' := by
  refine (record_any b o c v.isSome (v.getD 0) w hc _ _ _ (h.made c hc) (h.filled c hc) (h.val c hc) (frozen_blk hb _) (frozen_blk hb _) (frozen_blk hb _) (lt_of_block hb)).mono ?_
  rintro e w' ⟨rfl, n, rfl⟩
  exact ⟨rfl, put_to hb h hc v _ _ rfl rfl _ _⟩

set_option maxRecDepth 20000 in
theorem sput_any (b o c : Nat) (v : Int) (S : PSes) (w : World) (hc : c < 60) {cs : Array Value} {t : TypeId} (hb : w.heap[b]? = some (.cells cs t (0, 0))) (h : SesAt w b o S) :
    Calls Try.prog 39 #[.pointer (some ⟨b, o, none⟩), .int .i64 c, .int .i64 v] w fun e w' => e = .returned (.tuple #[]) ∧ PutTo b o (S.put c (some v)) w w' := by
  have HR := hid (record_to b o c (some v) S w hc hb h)
  clear hb h
  go_enter Try.func39, Try.ntmps39
  go_wp2_with fail
  go_at_call 49
  refine HR.out.mono ?_
  rintro e w' ⟨rfl, h⟩
  have H := hid h
  clear h
  go_wp2
  go_returns
  exact ⟨rfl, H.out⟩

set_option maxRecDepth 20000 in
theorem sclear_any (b o c : Nat) (S : PSes) (w : World) (hc : c < 60) {cs : Array Value} {t : TypeId} (hb : w.heap[b]? = some (.cells cs t (0, 0))) (h : SesAt w b o S) :
    Calls Try.prog 41 #[.pointer (some ⟨b, o, none⟩), .int .i64 c] w fun e w' => e = .returned (.tuple #[]) ∧ PutTo b o (S.put c none) w w' := by
  have HR := hid (record_to b o c none S w hc hb h)
  clear hb h
  go_enter Try.func41, Try.ntmps41
  go_wp2_with fail
  go_at_call 49
  refine HR.out.mono ?_
  rintro e w' ⟨rfl, h⟩
  have H := hid h
  clear h
  go_wp2
  go_returns
  exact ⟨rfl, H.out⟩

end Go.Proofs.Ytcaenpfbihmjmaa
