import Derived.Test.YtcaenpfbihmjmaaGreatPsA
import Derived.Test.YtcaenpfbihmjmaaGreatOv
import Derived.Deep.WholeRow
/- The program's versions in memory: what a cell has at a stamp. -/
namespace Go.Proofs.YtcaenpfbihmjmaaGreat
open Go.RowKit

def hvCells (l : List (Int × Option Int)) : List Value := l.flatMap fun p => [.int .i64 p.1, .bool p.2.isSome, .int .i64 (p.2.getD 0)]
theorem hvCells_snoc (l : List (Int × Option Int)) (p : Int × Option Int) : hvCells (l ++ [p]) = hvCells l ++ [.int .i64 p.1, .bool p.2.isSome, .int .i64 (p.2.getD 0)] := by simp [hvCells]
theorem hvCells_at : ∀ (l : List (Int × Option Int)) (k : Nat) (hk : k < l.length), (hvCells l)[k * 3]? = some (.int .i64 l[k].1) ∧ (hvCells l)[k * 3 + 1]? = some (.bool l[k].2.isSome) ∧ (hvCells l)[k * 3 + 2]? = some (.int .i64 (l[k].2.getD 0))
  | p :: l, 0, _ => ⟨rfl, rfl, rfl⟩
  | p :: l, k + 1, hk => by
    obtain ⟨h1, h2, h3⟩ := hvCells_at l k (by simpa using hk)
    have e : hvCells (p :: l) = .int .i64 p.1 :: .bool p.2.isSome :: .int .i64 (p.2.getD 0) :: hvCells l := rfl
    rw [e, show (k + 1) * 3 = k * 3 + 1 + 1 + 1 by omega]
    exact ⟨by simpa using h1, by simpa using h2, by simpa using h3⟩

theorem histAt_none {l : List (Int × Option Int)} {t : Int} (h : ∀ j (hj : j < l.length), ¬ l[j].1 ≤ t) : histAt l t = none := by
  unfold histAt
  have : l.reverse.find? (fun p => decide (p.1 ≤ t)) = none := by
    rw [List.find?_eq_none]
    intro p hp
    obtain ⟨j, hj, rfl⟩ := List.mem_iff_getElem.mp (List.mem_reverse.mp hp)
    simpa using h j hj
  rw [this]
theorem histAt_some {l : List (Int × Option Int)} {t : Int} {k : Nat} (hk : k < l.length) (h1 : l[k].1 ≤ t) (h : ∀ j (hj : j < l.length), k < j → ¬ l[j].1 ≤ t) : histAt l t = l[k].2 := by
  unfold histAt
  have : l.reverse.find? (fun p => decide (p.1 ≤ t)) = some l[k] := by
    rw [List.find?_eq_some_iff_getElem]
    refine ⟨by simpa using h1, l.length - 1 - k, by simp; omega, ?_, ?_⟩
    · simp only [List.getElem_reverse]
      congr 1
      omega
    · intro j hj
      simp only [List.getElem_reverse, Bool.not_eq_true', decide_eq_false_iff_not]
      exact h _ (by omega) (by omega)
  rw [this]

/-- A state, as a value. -/
def stateV (p : Option Int) : Value := .agg #[.bool p.isSome, .int .i64 (p.getD 0)]

set_option maxRecDepth 20000 in
set_option maxHeartbeats 1000000 in
theorem hat_any (b o : Nat) (l : List (Int × Option Int)) (t : Int) (a : Option Addr) (m cp : Nat) (w : World) (hl : l.length ≤ 9223372036854775807)
    (hc : w.cell? ⟨b, o + 1, none⟩ = some (.slice a m cp)) (h : w.ownsRow 0 151 3 (.slice a m cp) l.length (hvCells l)) :
    Calls Tryz.prog 73 #[.pointer (some ⟨b, o, none⟩), .int .i64 t] w fun e w' => e = .returned (stateV (histAt l t)) ∧ w.grownBy w' none := by
  have em := own_len h
  subst em
  obtain ⟨r, hr⟩ : ∃ r, r = histAt l t := ⟨_, rfl⟩
  rw [← hr]
  have HR := hid hr
  clear hr
  have hbl := World.block_lt_of_cell? w _ hc
  have hbz : b ≠ w.heap.size := by simp at hbl; omega
  go_enter Tryz.func73, Tryz.ntmps73
  go_wp2_with fail
  go_loop [5] (fun i => ∃ k : Nat, k ≤ l.length ∧ i = .int .i64 ((k : Int) - 1) ∧ ∀ j (h : j < l.length), k ≤ j → ¬ l[j].1 ≤ t) (fun i => (intOf i + 1).toNat)
  case atStart => exact ⟨l.length, Nat.le_refl _, rfl, fun j h1 h2 => by omega⟩
  case round =>
    obtain ⟨k, hk, rfl, hno⟩ := hrel
    have HN := hid hno
    clear hno
    cases k with
    | zero =>
      have HU : Hid (r = none) := hid (by rw [HR.out]; exact histAt_none (fun j hj => HN.out j hj (Nat.zero_le _)))
      go_wp2
      refine bodyPost_ret (v := stateV none) (results_cell_row Tryz.results73 _ _ _ _ _ _ _ rfl (heap_alloc_new _ _) Tryz.underlying74 rfl (by kernel_rfl)) rfl ⟨by rw [HU.out], grown_alloc (grown_refl _ _) _⟩
    | succ k =>
      have hlt : k < l.length := by omega
      obtain ⟨g, rfl, _, hgb, hgl, hcell⟩ := own_cell h (by omega)
      have d0 := hcell _ _ (hvCells_at l k hlt).1
      have d1 := hcell _ _ (hvCells_at l k hlt).2.1
      have d2 := hcell _ _ (hvCells_at l k hlt).2.2
      have hk0 : ((k + 1 : Nat) : Int) - 1 = (k : Int) := by omega
      rw [hk0]
      clear hcell
      have hgz : g ≠ w.heap.size := by omega
      obtain ⟨u, hu⟩ : ∃ u, u = l[k].1 := ⟨_, rfl⟩
      obtain ⟨q, hq⟩ : ∃ q, q = l[k].2 := ⟨_, rfl⟩
      rw [← hu] at d0
      rw [← hq] at d1 d2
      have HX := hid hu
      have HQ := hid hq
      clear hu hk0 hq
      by_cases he : u ≤ t
      · have HU : Hid (r = q) := hid (by rw [HR.out, HQ.out]; exact histAt_some hlt (by rw [← HX.out]; exact he) (fun j hj hkj => HN.out j hj (by omega)))
        go_wp2
        try simp only [Exit.inBlock, Exit.then]
        refine bodyPost_ret (v := stateV q) (results_cell_row Tryz.results73 _ _ _ _ _ _ _ rfl (heap_alloc_new _ _) Tryz.underlying74 rfl (by kernel_rfl)) rfl ⟨by rw [HU.out], grown_alloc (grown_refl _ _) _⟩
      · have HN' : Hid (∀ j (h : j < l.length), k ≤ j → ¬ l[j].1 ≤ t) := hid (by
          intro j hj hkj
          by_cases e : j = k
          · subst e; rw [← HX.out]; exact he
          · exact HN.out j hj (by omega))
        go_wp2
        go_round
        case rel => exact ⟨k, by omega, rfl, HN'.out⟩
        case measure => simp [intOf]

end Go.Proofs.YtcaenpfbihmjmaaGreat

/- The program's versions in memory: what all cells have at a stamp. -/
namespace Go.Proofs.YtcaenpfbihmjmaaGreat
open Go.RowKit

/-- The versions of an engine, in block b from o on; the rows of the versions that are kept are the values kv. -/
structure StoreAt (w : World) (b o : Nat) (X : PEng) (kv : Nat → Value) : Prop where
  latest : w.cell? ⟨b, o, none⟩ = some (.int .i64 X.latest)
  last : ∀ c, c < 60 → w.cell? ⟨b, o + 1 + c * 2, none⟩ = some (.int .i64 (X.last c))
  kept : ∀ c, c < 60 → w.cell? ⟨b, o + 1 + c * 2 + 1, none⟩ = some (kv c)
def HRows (w : World) (X : PEng) (kv : Nat → Value) : Prop := ∀ c, c < 60 → w.ownsRow 0 151 3 (kv c) (X.hist c).length (hvCells (X.hist c))

/-- Sixty states, as cells. -/
structure StArr (sc : Array Value) (k : Nat) (f : Nat → Option Int) : Prop where
  size : sc.size = 120
  fill : ∀ c, c < k → sc[c * 2]? = some (.bool (f c).isSome)
  val : ∀ c, c < k → sc[c * 2 + 1]? = some (.int .i64 ((f c).getD 0))

theorem StArr.one {sc : Array Value} {f : Nat → Option Int} (h : StArr sc 60 f) : sc.all (·.oneCell') = true := by
  rw [Array.all_eq_true]
  intro j hj
  have hs := h.size
  have h1 := h.fill (j / 2) (by omega)
  have h2 := h.val (j / 2) (by omega)
  rcases Nat.mod_two_eq_zero_or_one j with e | e
  · rw [show j / 2 * 2 = j by omega, Array.getElem?_eq_getElem hj] at h1
    simp only [Option.some.injEq] at h1
    rw [h1]; rfl
  · rw [show j / 2 * 2 + 1 = j by omega, Array.getElem?_eq_getElem hj] at h2
    simp only [Option.some.injEq] at h2
    rw [h2]; rfl
theorem StArr.step {sc : Array Value} {k : Nat} {f : Nat → Option Int} (h : StArr sc k f) (hk : k < 60) : StArr ((sc.setIfInBounds (k * 2) (.bool (f k).isSome)).setIfInBounds (k * 2 + 1) (.int .i64 ((f k).getD 0))) (k + 1) f := by
  have hs := h.size
  refine ⟨by simp [hs], fun c hc => ?_, fun c hc => ?_⟩
  · rw [Array.getElem?_setIfInBounds_ne (by omega)]
    by_cases e : c = k
    · subst e
      rw [Array.getElem?_setIfInBounds_self_of_lt (by omega)]
    · rw [Array.getElem?_setIfInBounds_ne (by omega)]
      exact h.fill c (by omega)
  · by_cases e : c = k
    · subst e
      rw [Array.getElem?_setIfInBounds_self_of_lt (by simp; omega)]
    · rw [Array.getElem?_setIfInBounds_ne (by omega), Array.getElem?_setIfInBounds_ne (by omega)]
      exact h.val c (by omega)

/-- A whole block's array is read. -/
theorem wp_load_row {P : Program} {op : Oper} {a : Act} {w : World} {K : Act → World → Prop} {Q : Exit → Act → World → Prop} (ty : TypeId) (x : Operand) (ho : op.op = .load ty x)
    (b : Nat) (hx : a.eval x = .pointer (some ⟨b, 0, none⟩)) (cs : Array Value) (t : TypeId) (fr : Nat × Nat) (d : TypeDesc) (hb : w.heap[b]? = some (.cells cs t fr))
    (hu : P.underlying ty = some d) (hd : (match d with | .struct _ | .array _ _ => true | _ => false) = true) (hi : (P.info? ty).map (·.size) = some cs.size)
    (h : K (a.put op.dst (.agg cs)) w) : op.wp P a w K Q := by
  unfold Oper.wp execOp
  simp only [ho, hx, Instr.loadAt, Instr.sureAddr, Sem.run_bind, Sem.run_pure, Result.andThen_ok, run_loadVar_row w b t ty cs fr d hb hu hd hi]
  exact h
/-- A whole block's array is written. -/
theorem wp_store_row {P : Program} {op : Oper} {a : Act} {w : World} {K : Act → World → Prop} {Q : Exit → Act → World → Prop} (ty : TypeId) (x y : Operand) (ho : op.op = .store ty x y)
    (b : Nat) (hx : a.eval x = .pointer (some ⟨b, 0, none⟩)) (cs old : Array Value) (hy : a.eval y = .agg cs) (t : TypeId) (hb : w.heap[b]? = some (.cells old t (0, 0)))
    (hi : (P.info? ty).map (·.size) = some cs.size) (hs : old.size = cs.size) (h1 : cs.all (·.oneCell') = true)
    (h : K (a.put op.dst undef) (w.setRow b cs)) : op.wp P a w K Q := by
  unfold Oper.wp execOp
  simp only [ho, hx, hy, Instr.storeAt, Instr.sureAddr, Sem.run_bind, Sem.run_pure, Result.andThen_ok, run_storeVar_row w b t ty old cs hb hi hs h1]
  exact h
theorem wpList_load_row {P : Program} {ops : Array Oper} {rest : List Oper} {op : Oper} {a : Act} {w : World} {Q : Exit → Act → World → Prop} (hgd : op.guard = none) (ty : TypeId) (x : Operand) (ho : op.op = .load ty x)
    (b : Nat) (hx : a.eval x = .pointer (some ⟨b, 0, none⟩)) (cs : Array Value) (t : TypeId) (fr : Nat × Nat) (d : TypeDesc) (hb : w.heap[b]? = some (.cells cs t fr))
    (hu : P.underlying ty = some d) (hd : (match d with | .struct _ | .array _ _ => true | _ => false) = true) (hi : (P.info? ty).map (·.size) = some cs.size)
    (h : wpList P ops Q rest (a.put op.dst (.agg cs)) w) : wpList P ops Q (op :: rest) a w :=
  wpList_plain hgd fun _ hK => wp_load_row ty x ho b hx cs t fr d hb hu hd hi (hK _ _ h)
theorem wpList_store_row {P : Program} {ops : Array Oper} {rest : List Oper} {op : Oper} {a : Act} {w : World} {Q : Exit → Act → World → Prop} (hgd : op.guard = none) (ty : TypeId) (x y : Operand) (ho : op.op = .store ty x y)
    (b : Nat) (hx : a.eval x = .pointer (some ⟨b, 0, none⟩)) (cs old : Array Value) (hy : a.eval y = .agg cs) (t : TypeId) (hb : w.heap[b]? = some (.cells old t (0, 0)))
    (hi : (P.info? ty).map (·.size) = some cs.size) (hs : old.size = cs.size) (h1 : cs.all (·.oneCell') = true)
    (h : wpList P ops Q rest (a.put op.dst undef) (w.setRow b cs)) : wpList P ops Q (op :: rest) a w :=
  wpList_plain hgd fun _ hK => wp_store_row ty x y ho b hx cs old hy t hb hi hs h1 (hK _ _ h)
theorem grown_setRow {w w' : World} {r : Option Nat} (h : w.grownBy w' r) {b : Nat} (hb : w.heap.size ≤ b) (cs : Array Value) : w.grownBy (w'.setRow b cs) r :=
  ⟨h.os, h.tape, h.output, by simpa using h.size, fun k hk hr => by rw [setRow_other _ _ _ _ (by omega)]; exact h.block k hk hr⟩

def zeroStates : Array Value := ((List.replicate 60 [Value.bool false, Value.int .i64 0]).flatten).toArray
theorem zeroStates_size : zeroStates.size = 120 := by kernel_rfl
theorem Tryz.zinfo108 : (Tryz.prog.info? 108).map (fun i => (i.zero, i.size)) = some (some (.agg zeroStates), 120) := by kernel_rfl

theorem grown_cell {w w' : World} (h : w.grownBy w' none) {a : Addr} {v : Value} (hc : w.cell? a = some v) : w'.cell? a = some v := h.cell hc (by simp)
theorem ownsRow_grown {w w' : World} (h : w.grownBy w' none) {e : TypeId} {s n : Nat} {v : Value} {xs : List Value} (ho : w.ownsRow 0 e s v n xs) : w'.ownsRow 0 e s v n xs := own_kept ho h (fun g hg => by cases hg)

set_option maxRecDepth 20000 in
set_option maxHeartbeats 2000000 in
theorem sat_any (b o : Nat) (X : PEng) (kv : Nat → Value) (t : Int) (w : World) (hS : StoreAt w b o X kv) (hR : HRows w X kv) (hl : ∀ c, c < 60 → (X.hist c).length ≤ 9223372036854775807) :
    Calls Tryz.prog 49 #[.pointer (some ⟨b, o, none⟩), .int .i64 t] w fun e w' => (∃ sc, e = .returned (.agg sc) ∧ StArr sc 60 (fun c => histAt (X.hist c) t)) ∧ w.grownBy w' none := by
  obtain ⟨hz, hzs⟩ := zero_of_info Tryz.zinfo108
  obtain ⟨z, hzz⟩ : ∃ z, z = zeroStates := ⟨_, rfl⟩
  have hzsz : Hid (z.size = 120) := hid (by rw [hzz]; exact zeroStates_size)
  rw [← hzz] at hz
  have HZS := hid hzs
  clear hzz hzs
  have hbl : b < w.heap.size := World.block_lt_of_cell? w _ hS.latest
  have HAT : Hid (∀ c, c < 60 → ∀ W, w.grownBy W none → Calls Tryz.prog 73 #[.pointer (some ⟨b, o + 1 + c * 2, none⟩), .int .i64 t] W fun e w' => e = .returned (stateV (histAt (X.hist c) t)) ∧ W.grownBy w' none) := hid (by
    intro c hc W hg
    have h1 := hR c hc
    have h2 := hS.kept c hc
    obtain ⟨a, m, cp, e⟩ := own_slice h1
    rw [e] at h1 h2
    exact hat_any b (o + 1 + c * 2) (X.hist c) t a m cp W (hl c hc) (grown_cell hg h2) (ownsRow_grown hg h1))
  clear hS hR hl
  go_enter Tryz.func49, Tryz.ntmps49
  go_wp2_with fail
  go_loopw [6] (fun i wr => ∃ k : Nat, k ≤ 60 ∧ i = .int .i64 k ∧ w.grownBy wr none ∧ wr.heap[w.heap.size]? = some (.cells z 108 (0, 0)) ∧ ∃ sc, wr.heap[w.heap.size + 1]? = some (.cells sc 108 (0, 0)) ∧ StArr sc k (fun c => histAt (X.hist c) t)) (fun i _ => 60 - (intOf i).toNat)
  case atStart =>
    refine ⟨0, by omega, rfl, grown_alloc (grown_alloc (grown_refl _ _) _) _, ?_, z, ?_, hzsz.out, fun c h => by omega, fun c h => by omega⟩
    · exact (Below.heap_alloc _ _ _ (by simp)).trans (heap_alloc_new w _)
    · have := heap_alloc_new (w.alloc (.cells z 108)) (.cells z 108)
      simpa using this
  case round =>
    obtain ⟨k, hk, rfl, hg, hb0, sc, hb1, hsc⟩ := hrel
    have HG := hid hg
    have HB0 := hid hb0
    have HSC := hid hsc
    have HB1 := hid hb1
    clear hg hb0 hsc hb1
    by_cases hlt : k < 60
    · have HC := hid (HAT.out k hlt _ HG.out)
      obtain ⟨v, hv⟩ : ∃ v, v = histAt (X.hist k) t := ⟨_, rfl⟩
      rw [← hv] at HC
      have HV := hid hv
      clear hv
      unfold stateV at HC
      go_wp2_with fail
      go_at_call 73
      refine HC.out.mono ?_
      rintro e w1 ⟨rfl, hg1⟩
      have hl1 := lt_of_block HB1.out
      have hb1 := (hg1.block _ hl1 (by simp)).trans HB1.out
      have HB2 := hid hb1
      have x0 : w1.cell? ⟨w.heap.size + 1, k * 2, none⟩ = some (sc[k * 2]'(by have := HSC.out.size; omega)) := by simp [World.cell?, hb1]
      have x1 : w1.cell? ⟨w.heap.size + 1, k * 2 + 1, none⟩ = some (sc[k * 2 + 1]'(by have := HSC.out.size; omega)) := by simp [World.cell?, hb1]
      have z0 := frozen_blk hb1 (k * 2)
      have z1 := frozen_blk hb1 (k * 2 + 1)
      have HG1 := hid (grown_trans HG.out hg1)
      have HB3 := hid ((hg1.block _ (lt_of_block HB0.out) (by simp)).trans HB0.out)
      clear hg1 hb1 HC HB0 HB1 HG
      generalize sc[k * 2]'_ = y0 at x0
      generalize sc[k * 2 + 1]'_ = y1 at x1
      go_wp2_with fail
      go_roundw
      case rel =>
        refine ⟨k + 1, by omega, by go_num, grown_set (grown_set HG1.out (.inr (by simp)) _) (.inr (by simp)) _, ?_, _, blk_setCell (blk_setCell HB2.out _ _) _ _, ?_⟩
        · rw [Below.heap_setCell _ _ _ _ (by simp), Below.heap_setCell _ _ _ _ (by simp)]
          exact HB3.out
        · rw [HV.out]
          exact HSC.out.step hlt
      case measure => simp [intOf]; omega
    · have hk60 : k = 60 := by omega
      subst hk60
      have HONE := hid HSC.out.one
      have HSZ := hid HSC.out.size
      go_wp2_with (first | (refine wpList_load_row rfl 108 (.tmp 5) rfl (w.heap.size + 1) rfl sc _ _ _ HB1.out Tryz.underlying108 rfl (HZS.out.trans (by rw [HSZ.out])) ?_) | (refine wpList_store_row rfl 108 (.tmp 4) (.tmp 20) rfl w.heap.size rfl sc z rfl _ HB0.out (HZS.out.trans (by rw [HSZ.out])) (by rw [HSZ.out, hzsz.out]) HONE.out ?_))
      refine bodyPost_ret (v := .agg sc) (results_cell_row Tryz.results49 _ _ _ _ _ _ _ rfl (setRow_heap _ _ _ _ _ _ HB0.out) Tryz.underlying108 rfl (HZS.out.trans (by rw [HSZ.out]))) rfl ⟨⟨sc, rfl, HSC.out⟩, grown_setRow HG.out (Nat.le_refl _) _⟩

end Go.Proofs.YtcaenpfbihmjmaaGreat

/- What a session sees, as the program tells it. -/
namespace Go.Proofs.YtcaenpfbihmjmaaGreat
open Go.RowKit

/-- What a session sees of a cell, over what the cells have. -/
def seenW (S : PSes) (f : Nat → Option Int) (c : Nat) : Option Int := match S.wr c with
  | some v => v
  | none => f c
def seenN (S : PSes) (f : Nat → Option Int) (n : Nat) : List ByteArray := (List.range n).filterMap fun c => (seenW S f c).map (factP c)
theorem seenN_succ (S : PSes) (f : Nat → Option Int) (n : Nat) : seenN S f (n + 1) = seenN S f n ++ ((seenW S f n).map (factP n)).toList := by
  unfold seenN
  rw [List.range_succ, List.filterMap_append]
  cases h : seenW S f n <;> simp [h]
theorem size_factP (c : Nat) (v : Int) : (factP c v).size = 3 := rfl
theorem seenN_size (S : PSes) (f : Nat → Option Int) : ∀ n, (joined (seenN S f n)).size ≤ 3 * n
  | 0 => by simp [seenN, joined]
  | n + 1 => by
    have ih := seenN_size S f n
    rw [seenN_succ]
    cases seenW S f n with
    | none => simp; omega
    | some v =>
      simp only [Option.map_some, Option.toList_some]
      rw [joined_snoc, ByteArray.size_append, size_factP]
      omega

/-- Values are digits. -/
def Digs (g : Nat → Option Int) : Prop := ∀ c v, c < 60 → g c = some v → 0 ≤ v ∧ v ≤ 9

set_option maxRecDepth 20000 in
set_option maxHeartbeats 4000000 in
theorem sview_any (b o : Nat) (S : PSes) (f : Nat → Option Int) (sc : Array Value) (w : World) (h : SesAt w b o S) (hsc : StArr sc 60 f) (hd : Digs (seenW S f)) :
    Calls Tryz.prog 50 #[.pointer (some ⟨b, o, none⟩), .agg sc] w fun e w' => e = .returned (.string (joined (seenN S f 60))) ∧ w.grownBy w' none := by
  have hbl : b < w.heap.size := World.block_lt_of_cell? w _ h.num
  have HS := hid h
  have HSC := hid hsc
  have HD := hid hd
  clear h hsc hd
  go_enter Tryz.func50, Tryz.ntmps50
  go_wp2_with fail
  go_loopw [5, 6] (fun t i wr => ∃ k : Nat, k ≤ 60 ∧ i = .int .i64 k ∧ t = .string (joined (seenN S f k)) ∧ w.grownBy wr none ∧ wr.heap[w.heap.size]? = some (.cells sc 108 (0, 0))) (fun _ i _ => 60 - (intOf i).toNat)
  case atStart => exact ⟨0, by omega, rfl, rfl, grown_alloc (grown_refl _ _) _, heap_alloc_new w _⟩
  case round =>
    obtain ⟨k, hk, rfl, rfl, hg, hb0⟩ := hrel
    have HG := hid hg
    have HB0 := hid hb0
    by_cases hlt : k < 60
    · have d0 : wr.cell? ⟨w.heap.size, k * 2, none⟩ = some (.bool (f k).isSome) := by rw [cell_of_row _ _ _ _ _ _ hb0]; exact HSC.out.fill k hlt
      have d1 : wr.cell? ⟨w.heap.size, k * 2 + 1, none⟩ = some (.int .i64 ((f k).getD 0)) := by rw [cell_of_row _ _ _ _ _ _ hb0]; exact HSC.out.val k hlt
      have m0 := grown_cell hg (HS.out.made k hlt)
      have m1 := grown_cell hg (HS.out.filled k hlt)
      have m2 := grown_cell hg (HS.out.val k hlt)
      have hsz := hg.size
      have hl0 := lt_of_block hb0
      have z1 : b ≠ wr.heap.size := by omega
      have z2 : w.heap.size ≠ wr.heap.size := by omega
      have z3 : b < wr.heap.size := by omega
      have HJ := hid (seenN_succ S f k)
      have hjs := seenN_size S f k
      have HDK := hid (HD.out k)
      obtain ⟨jt, hjt⟩ : ∃ jt, jt = joined (seenN S f k) := ⟨_, rfl⟩
      have hjz : jt.size ≤ 180 := by rw [hjt]; omega
      rw [← hjt]
      have HJT := hid hjt
      obtain ⟨f0, hf0⟩ : ∃ f0, f0 = (f k).isSome := ⟨_, rfl⟩
      obtain ⟨f1, hf1⟩ : ∃ f1, f1 = (f k).getD 0 := ⟨_, rfl⟩
      rw [← hf0] at d0
      rw [← hf1] at d1
      have HF0 := hid hf0
      have HF1 := hid hf1
      clear hjt hjs hg hb0 hl0 hf0 hf1
      have hskip : Hid (seenW S f k = none → ∀ W, wr.grownBy W none → w.grownBy W none ∧ W.heap[w.heap.size]? = some (.cells sc 108 (0, 0)) ∧ jt = joined (seenN S f (k + 1))) := hid (fun e W hW => ⟨grown_trans HG.out hW, (hW.block _ (lt_of_block HB0.out) (by simp)).trans HB0.out, by rw [HJ.out, e, HJT.out]; simp⟩)
      have hadd : Hid (∀ v, seenW S f k = some v → (0 ≤ v ∧ v ≤ 9) ∧ ∀ W, wr.grownBy W none → w.grownBy W none ∧ W.heap[w.heap.size]? = some (.cells sc 108 (0, 0)) ∧ jt ++ factP k v = joined (seenN S f (k + 1))) := hid (fun v e => ⟨HDK.out v hlt e, fun W hW => ⟨grown_trans HG.out hW, (hW.block _ (lt_of_block HB0.out) (by simp)).trans HB0.out, by rw [HJ.out, e, HJT.out]; simp [joined_snoc]⟩⟩)
      cases hw : S.wr k with
      | none =>
        rw [hw] at m0 m1 m2
        simp only [wMade, wFilled, wVal, Option.isSome_none] at m0 m1 m2
        have hsw : seenW S f k = f k := by unfold seenW; rw [hw]
        cases hfk : f k with
        | none =>
          have e0 : f0 = false := by rw [HF0.out, hfk]; rfl
          subst e0
          have HSK := hid (hskip.out (by rw [hsw, hfk]))
          clear hw hsw hfk hskip hadd HF0 HF1 HD HDK
          go_wp2_with fail
          go_roundw
          case rel =>
            obtain ⟨q1, q2, q3⟩ := HSK.out _ (grown_alloc (grown_refl wr none) _)
            exact ⟨k + 1, by omega, by go_num, by rw [q3], q1, q2⟩
          case measure => simp [intOf]; omega
        | some v =>
          have e0 : f0 = true := by rw [HF0.out, hfk]; rfl
          have e1 : f1 = v := by rw [HF1.out, hfk]; rfl
          subst e0
          subst e1
          obtain ⟨⟨hv0, hv9⟩, had⟩ := hadd.out f1 (by rw [hsw, hfk])
          have HAD := hid had
          have HWF := hid (fun W => wrfact_any k f1 W hlt hv0 hv9)
          have hfz := size_factP k f1
          obtain ⟨ft, hft⟩ : ∃ ft, ft = factP k f1 := ⟨_, rfl⟩
          rw [← hft] at HAD HWF hfz
          clear hw hsw hfk hskip hadd HF0 HF1 HD HDK had hft
          go_wp2_with fail
          go_at_call 74
          refine (HWF.out _).mono ?_
          rintro e w1 ⟨rfl, hg1⟩
          have HG1 := hid hg1
          clear hg1
          go_wp2_with fail
          go_roundw
          case rel =>
            obtain ⟨q1, q2, q3⟩ := HAD.out _ (grown_trans (grown_alloc (grown_refl wr none) _) HG1.out)
            exact ⟨k + 1, by omega, by go_num, by rw [q3], q1, q2⟩
          case measure => simp [intOf]; omega
      | some p =>
        rw [hw] at m0 m1 m2
        have hsw : seenW S f k = p := by unfold seenW; rw [hw]
        cases p with
        | none =>
          simp only [wMade, wFilled, wVal, Option.isSome_some] at m0 m1 m2
          have HSK := hid (hskip.out hsw)
          clear hw hsw hskip hadd HF0 HF1 HD HDK
          go_wp2_with fail
          go_roundw
          case rel =>
            obtain ⟨q1, q2, q3⟩ := HSK.out _ (grown_alloc (grown_refl wr none) _)
            exact ⟨k + 1, by omega, by go_num, by rw [q3], q1, q2⟩
          case measure => simp [intOf]; omega
        | some v =>
          simp only [wMade, wFilled, wVal, Option.isSome_some] at m0 m1 m2
          obtain ⟨⟨hv0, hv9⟩, had⟩ := hadd.out v hsw
          have HAD := hid had
          have HWF := hid (fun W => wrfact_any k v W hlt hv0 hv9)
          have hfz := size_factP k v
          obtain ⟨ft, hft⟩ : ∃ ft, ft = factP k v := ⟨_, rfl⟩
          rw [← hft] at HAD HWF hfz
          clear hw hsw hskip hadd HF0 HF1 HD HDK had hft
          go_wp2_with fail
          go_at_call 74
          refine (HWF.out _).mono ?_
          rintro e w1 ⟨rfl, hg1⟩
          have HG1 := hid hg1
          clear hg1
          go_wp2_with fail
          go_roundw
          case rel =>
            obtain ⟨q1, q2, q3⟩ := HAD.out _ (grown_trans (grown_alloc (grown_refl wr none) _) HG1.out)
            exact ⟨k + 1, by omega, by go_num, by rw [q3], q1, q2⟩
          case measure => simp [intOf]; omega
    · have hk60 : k = 60 := by omega
      subst hk60
      clear hg hb0
      go_wp2_with fail
      go_ret
      exact ⟨rfl, HG.out⟩

end Go.Proofs.YtcaenpfbihmjmaaGreat
