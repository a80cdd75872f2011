/- The program's versions in memory: what all cells have at a stamp. -/
import Derived.Test.YthlhbjnkohinmaaPs4
import Derived.Deep.WholeRow
namespace Go.Proofs.Ythlhbjnkohinmaa
open Go.RowKit

/-- The versions of an engine, in block b from o on; the rows of the versions that are kept are the values kv. -/
structure StoreAt (w : World) (b o : Nat) (X : PEng) (kv : Nat → Value) : Prop where
  latest : w.cell? ⟨b, o, none⟩ = some (.int .i64 X.latest)
  last : ∀ c, c < 60 → w.cell? ⟨b, o + 1 + c * 2, none⟩ = some (.int .i64 (X.last c))
  kept : ∀ c, c < 60 → w.cell? ⟨b, o + 1 + c * 2 + 1, none⟩ = some (kv c)
def HRows (w : World) (X : PEng) (kv : Nat → Value) : Prop := ∀ c, c < 60 → w.ownsRow 0 108 3 (kv c) (X.hist c).length (hvCells (X.hist c))

/-- Sixty versions, as cells. -/
structure StArr (sc : Array Value) (k : Nat) (f : Nat → Int × Option Int) : Prop where
  size : sc.size = 180
  stamp : ∀ c, c < k → sc[c * 3]? = some (.int .i64 (f c).1)
  fill : ∀ c, c < k → sc[c * 3 + 1]? = some (.bool (f c).2.isSome)
  val : ∀ c, c < k → sc[c * 3 + 2]? = some (.int .i64 ((f c).2.getD 0))

theorem StArr.one {sc : Array Value} {f : Nat → Int × Option Int} (h : StArr sc 60 f) : sc.all (·.oneCell') = true := by
  rw [Array.all_eq_true]
  intro j hj
  have hs := h.size
  have h0 := h.stamp (j / 3) (by omega)
  have h1 := h.fill (j / 3) (by omega)
  have h2 := h.val (j / 3) (by omega)
  have e : j / 3 * 3 = j ∨ j / 3 * 3 + 1 = j ∨ j / 3 * 3 + 2 = j := by omega
  rcases e with e | e | e
  · rw [e, Array.getElem?_eq_getElem hj] at h0
    simp only [Option.some.injEq] at h0
    rw [h0]; rfl
  · rw [e, Array.getElem?_eq_getElem hj] at h1
    simp only [Option.some.injEq] at h1
    rw [h1]; rfl
  · rw [e, Array.getElem?_eq_getElem hj] at h2
    simp only [Option.some.injEq] at h2
    rw [h2]; rfl
theorem StArr.step {sc : Array Value} {k : Nat} {f : Nat → Int × Option Int} (h : StArr sc k f) (hk : k < 60) : StArr (((sc.setIfInBounds (k * 3) (.int .i64 (f k).1)).setIfInBounds (k * 3 + 1) (.bool (f k).2.isSome)).setIfInBounds (k * 3 + 2) (.int .i64 ((f k).2.getD 0))) (k + 1) f := by
  have hs := h.size
  refine ⟨by simp [hs], fun c hc => ?_, fun c hc => ?_, fun c hc => ?_⟩
  · rw [Array.getElem?_setIfInBounds_ne (by omega), Array.getElem?_setIfInBounds_ne (by omega)]
    by_cases e : c = k
    · subst e
      rw [Array.getElem?_setIfInBounds_self_of_lt (by omega)]
    · rw [Array.getElem?_setIfInBounds_ne (by omega)]
      exact h.stamp c (by omega)
  · rw [Array.getElem?_setIfInBounds_ne (by omega)]
    by_cases e : c = k
    · subst e
      rw [Array.getElem?_setIfInBounds_self_of_lt (by simp; omega)]
    · rw [Array.getElem?_setIfInBounds_ne (by omega), Array.getElem?_setIfInBounds_ne (by omega)]
      exact h.fill c (by omega)
  · by_cases e : c = k
    · subst e
      rw [Array.getElem?_setIfInBounds_self_of_lt (by simp; omega)]
    · rw [Array.getElem?_setIfInBounds_ne (by omega), Array.getElem?_setIfInBounds_ne (by omega), Array.getElem?_setIfInBounds_ne (by omega)]
      exact h.val c (by omega)

/-- A whole block's array is read. -/
theorem wp_load_row {P : Program} {op : Oper} {a : Act} {w : World} {K : Act → World → Prop} {Q : Exit → Act → World → Prop} (ty : TypeId) (x : Operand) (ho : op.op = .load ty x)
    (b : Nat) (hx : a.eval x = .pointer (some ⟨b, 0, none⟩)) (cs : Array Value) (t : TypeId) (fr : Nat × Nat) (d : TypeDesc) (hb : w.heap[b]? = some (.cells cs t fr))
    (hu : P.underlying ty = some d) (hd : (match d with | .struct _ | .array _ _ => true | _ => false) = true) (hi : (P.info? ty).map (·.size) = some cs.size)
    (h : K (a.put op.dst (.agg cs)) w) : op.wp P a w K Q := by
  unfold Oper.wp execOp
  simp only [ho, hx, Instr.loadAt, Instr.sureAddr, Sem.run_bind, Sem.run_pure, Result.andThen_ok, run_loadVar_row w b t ty cs fr d hb hu hd hi]
  exact h
/-- A whole block's array is written. -/
theorem wp_store_row {P : Program} {op : Oper} {a : Act} {w : World} {K : Act → World → Prop} {Q : Exit → Act → World → Prop} (ty : TypeId) (x y : Operand) (ho : op.op = .store ty x y)
    (b : Nat) (hx : a.eval x = .pointer (some ⟨b, 0, none⟩)) (cs old : Array Value) (hy : a.eval y = .agg cs) (t : TypeId) (hb : w.heap[b]? = some (.cells old t (0, 0)))
    (hi : (P.info? ty).map (·.size) = some cs.size) (hs : old.size = cs.size) (h1 : cs.all (·.oneCell') = true)
    (h : K (a.put op.dst undef) (w.setRow b cs)) : op.wp P a w K Q := by
  unfold Oper.wp execOp
  simp only [ho, hx, hy, Instr.storeAt, Instr.sureAddr, Sem.run_bind, Sem.run_pure, Result.andThen_ok, run_storeVar_row w b t ty old cs hb hi hs h1]
  exact h
theorem wpList_load_row {P : Program} {ops : Array Oper} {rest : List Oper} {op : Oper} {a : Act} {w : World} {Q : Exit → Act → World → Prop} (hgd : op.guard = none) (ty : TypeId) (x : Operand) (ho : op.op = .load ty x)
    (b : Nat) (hx : a.eval x = .pointer (some ⟨b, 0, none⟩)) (cs : Array Value) (t : TypeId) (fr : Nat × Nat) (d : TypeDesc) (hb : w.heap[b]? = some (.cells cs t fr))
    (hu : P.underlying ty = some d) (hd : (match d with | .struct _ | .array _ _ => true | _ => false) = true) (hi : (P.info? ty).map (·.size) = some cs.size)
    (h : wpList P ops Q rest (a.put op.dst (.agg cs)) w) : wpList P ops Q (op :: rest) a w :=
  wpList_plain hgd fun _ hK => wp_load_row ty x ho b hx cs t fr d hb hu hd hi (hK _ _ h)
theorem wpList_store_row {P : Program} {ops : Array Oper} {rest : List Oper} {op : Oper} {a : Act} {w : World} {Q : Exit → Act → World → Prop} (hgd : op.guard = none) (ty : TypeId) (x y : Operand) (ho : op.op = .store ty x y)
    (b : Nat) (hx : a.eval x = .pointer (some ⟨b, 0, none⟩)) (cs old : Array Value) (hy : a.eval y = .agg cs) (t : TypeId) (hb : w.heap[b]? = some (.cells old t (0, 0)))
    (hi : (P.info? ty).map (·.size) = some cs.size) (hs : old.size = cs.size) (h1 : cs.all (·.oneCell') = true)
    (h : wpList P ops Q rest (a.put op.dst undef) (w.setRow b cs)) : wpList P ops Q (op :: rest) a w :=
  wpList_plain hgd fun _ hK => wp_store_row ty x y ho b hx cs old hy t hb hi hs h1 (hK _ _ h)
theorem grown_setRow {w w' : World} {r : Option Nat} (h : w.grownBy w' r) {b : Nat} (hb : w.heap.size ≤ b) (cs : Array Value) : w.grownBy (w'.setRow b cs) r :=
  ⟨h.os, h.tape, h.output, by simpa using h.size, fun k hk hr => by rw [setRow_other _ _ _ _ (by omega)]; exact h.block k hk hr⟩

def zeroStates : Array Value := ((List.replicate 60 [Value.int .i64 0, Value.bool false, Value.int .i64 0]).flatten).toArray
theorem zeroStates_size : zeroStates.size = 180 := by kernel_rfl
theorem Try.zinfo109 : (Try.prog.info? 109).map (fun i => (i.zero, i.size)) = some (some (.agg zeroStates), 180) := by kernel_rfl

theorem grown_cell {w w' : World} (h : w.grownBy w' none) {a : Addr} {v : Value} (hc : w.cell? a = some v) : w'.cell? a = some v := h.cell hc (by simp)
theorem ownsRow_grown {w w' : World} (h : w.grownBy w' none) {e : TypeId} {s n : Nat} {v : Value} {xs : List Value} (ho : w.ownsRow 0 e s v n xs) : w'.ownsRow 0 e s v n xs := own_kept ho h (fun g hg => by cases hg)

set_option maxRecDepth 20000 in
set_option maxHeartbeats 2000000 in
theorem sat_any (b o : Nat) (X : PEng) (kv : Nat → Value) (t : Int) (w : World) (hS : StoreAt w b o X kv) (hR : HRows w X kv) (hl : ∀ c, c < 60 → (X.hist c).length ≤ 9223372036854775807) :
    Calls Try.prog 40 #[.pointer (some ⟨b, o, none⟩), .int .i64 t] w fun e w' => (∃ sc, e = .returned (.agg sc) ∧ StArr sc 60 (fun c => histV (X.hist c) t)) ∧ w.grownBy w' none := by
  obtain ⟨hz, hzs⟩ := zero_of_info Try.zinfo109
  obtain ⟨z, hzz⟩ : ∃ z, z = zeroStates := ⟨_, rfl⟩
  have hzsz : Hid (z.size = 180) := hid (by rw [hzz]; exact zeroStates_size)
  rw [← hzz] at hz
  have HZS := hid hzs
  clear hzz hzs
  have hbl : b < w.heap.size := World.block_lt_of_cell? w _ hS.latest
  have HAT : Hid (∀ c, c < 60 → ∀ W, w.grownBy W none → Calls Try.prog 60 #[.pointer (some ⟨b, o + 1 + c * 2, none⟩), .int .i64 t] W fun e w' => e = .returned (versV (histV (X.hist c) t)) ∧ W.grownBy w' none) := hid (by
    intro c hc W hg
    have h1 := hR c hc
    have h2 := hS.kept c hc
    obtain ⟨a, m, cp, e⟩ := own_slice h1
    rw [e] at h1 h2
    exact hat_any b (o + 1 + c * 2) (X.hist c) t a m cp W (hl c hc) (grown_cell hg h2) (ownsRow_grown hg h1))
  clear hS hR hl
  go_enter Try.func40, Try.ntmps40
  go_wp2_with fail
  go_loopw [6] (fun i wr => ∃ k : Nat, k ≤ 60 ∧ i = .int .i64 k ∧ w.grownBy wr none ∧ wr.heap[w.heap.size]? = some (.cells z 109 (0, 0)) ∧ ∃ sc, wr.heap[w.heap.size + 1]? = some (.cells sc 109 (0, 0)) ∧ StArr sc k (fun c => histV (X.hist c) t)) (fun i _ => 60 - (intOf i).toNat)
  case atStart =>
    refine ⟨0, by omega, rfl, grown_alloc (grown_alloc (grown_refl _ _) _) _, ?_, z, ?_, hzsz.out, fun c h => by omega, fun c h => by omega, fun c h => by omega⟩
    · exact (Below.heap_alloc _ _ _ (by simp)).trans (heap_alloc_new w _)
    · have := heap_alloc_new (w.alloc (.cells z 109)) (.cells z 109)
      simpa using this
  case round =>
    obtain ⟨k, hk, rfl, hg, hb0, sc, hb1, hsc⟩ := hrel
    have HG := hid hg
    have HB0 := hid hb0
    have HSC := hid hsc
    have HB1 := hid hb1
    clear hg hb0 hsc hb1
    by_cases hlt : k < 60
    · have HC := hid (HAT.out k hlt _ HG.out)
      obtain ⟨v, hv⟩ : ∃ v, v = histV (X.hist k) t := ⟨_, rfl⟩
      rw [← hv] at HC
      have HV := hid hv
      clear hv
      unfold versV at HC
      go_wp2_with fail
      go_at_call 60
      refine HC.out.mono ?_
      rintro e w1 ⟨rfl, hg1⟩
      have hl1 := lt_of_block HB1.out
      have hb1 := (hg1.block _ hl1 (by simp)).trans HB1.out
      have HB2 := hid hb1
      have x0 : w1.cell? ⟨w.heap.size + 1, k * 3, none⟩ = some (sc[k * 3]'(by have := HSC.out.size; omega)) := by simp [World.cell?, hb1]
      have x1 : w1.cell? ⟨w.heap.size + 1, k * 3 + 1, none⟩ = some (sc[k * 3 + 1]'(by have := HSC.out.size; omega)) := by simp [World.cell?, hb1]
      have x2 : w1.cell? ⟨w.heap.size + 1, k * 3 + 2, none⟩ = some (sc[k * 3 + 2]'(by have := HSC.out.size; omega)) := by simp [World.cell?, hb1]
      have z0 := frozen_blk hb1 (k * 3)
      have z1 := frozen_blk hb1 (k * 3 + 1)
      have z2 := frozen_blk hb1 (k * 3 + 2)
      have HG1 := hid (grown_trans HG.out hg1)
      have HB3 := hid ((hg1.block _ (lt_of_block HB0.out) (by simp)).trans HB0.out)
      clear hg1 hb1 HC HB0 HB1 HG
      generalize sc[k * 3]'_ = y0 at x0
      generalize sc[k * 3 + 1]'_ = y1 at x1
      generalize sc[k * 3 + 2]'_ = y2 at x2
      go_wp2_with fail
      go_roundw
      case rel =>
        refine ⟨k + 1, by omega, by go_num, grown_set (grown_set (grown_set HG1.out (.inr (by simp)) _) (.inr (by simp)) _) (.inr (by simp)) _, ?_, _, blk_setCell (blk_setCell (blk_setCell HB2.out _ _) _ _) _ _, ?_⟩
        · rw [Below.heap_setCell _ _ _ _ (by simp), Below.heap_setCell _ _ _ _ (by simp), Below.heap_setCell _ _ _ _ (by simp)]
          exact HB3.out
        · rw [HV.out]
          exact HSC.out.step hlt
      case measure => simp [intOf]; omega
    · have hk60 : k = 60 := by omega
      subst hk60
      have HONE := hid HSC.out.one
      have HSZ := hid HSC.out.size
      go_wp2_with (first | (refine wpList_load_row rfl 109 (.tmp 5) rfl (w.heap.size + 1) rfl sc _ _ _ HB1.out Try.underlying109 rfl (HZS.out.trans (by rw [HSZ.out])) ?_) | (refine wpList_store_row rfl 109 (.tmp 4) (.tmp 20) rfl w.heap.size rfl sc z rfl _ HB0.out (HZS.out.trans (by rw [HSZ.out])) (by rw [HSZ.out, hzsz.out]) HONE.out ?_))
      refine bodyPost_ret (v := .agg sc) (results_cell_row Try.results40 _ _ _ _ _ _ _ rfl (setRow_heap _ _ _ _ _ _ HB0.out) Try.underlying109 rfl (HZS.out.trans (by rw [HSZ.out]))) rfl ⟨⟨sc, rfl, HSC.out⟩, grown_setRow HG.out (Nat.le_refl _) _⟩

end Go.Proofs.Ythlhbjnkohinmaa
