import Derived.Test.YthlhbjnkohinmaaPart11
import Derived.Laws.StructEq
import Derived.Laws.MakeOwn
/- The program's memory: what was fired, where there are marks. -/
namespace Go.Proofs.Ythlhbjnkohinmaa
open Go.RowKit

theorem plcI_bd {i : In} (hr : i.rule < 9) (hl : i.facts.length ≤ 3) : 0 ≤ plcI i ∧ plcI i ≤ 8999 := by
  have := plD_bd (dgA_bd i.facts) i.facts.length hl
  unfold plcI
  omega
theorem mark_guard (W : World) (x y : Operand) (xs ys : Array Value) : (eqGuard .eql 168 x y (.agg xs) (.agg ys)).run Try.prog W = .ok () W := run_eqGuard_agg W .eql _ x y xs ys (by kernel_rfl)
set_option maxRecDepth 20000 in
theorem mark_eq (W : World) (b : Bool) (t lt : Int) : (binOp .eql 168 (.agg #[.bool b, .int .i64 t]) (.agg #[.bool true, .int .i64 lt])).run Try.prog W = .ok (.bool (b && t == lt)) W := by
  rw [run_eql_struct, run_equalIn_agg W 9999 _ _ _ (by kernel_rfl) (by kernel_rfl)]
  unfold Program.fieldsOf
  rw [Try.underlying168]
  simp only []
  go_simp
  cases b with
  | false => simp
  | true => by_cases h : t = lt <;> simp [h]
/-- The place of a mark. -/
def plcN (i : In) : Nat := (plcI i).toNat
set_option maxRecDepth 20000 in
set_option maxHeartbeats 1000000 in
theorem phas_some (wt : Int) (i : In) (x o g N : Nat) (b : Bool) (t : Int) (w : World) (hr : i.rule < 9) (hl : i.facts.length ≤ 3) (hm : w.cell? ⟨x, o, none⟩ = some (.slice (some ⟨g, 0, none⟩) N N)) (hN : N = 9000)
    (hb : w.cell? ⟨g, plcN i * 2, none⟩ = some (.bool b)) (ht : w.cell? ⟨g, plcN i * 2 + 1, none⟩ = some (.int .i64 t)) :
    Calls Try.prog 58 #[.pointer (some ⟨x, o, none⟩), .agg (inCells wt i).toArray] w fun e w' => e = .returned (.bool (b && (t == latF i.facts))) ∧ w.grownBy w' none := by
  have HP : Hid (∀ W, Calls Try.prog 76 #[.agg (inCells wt i).toArray] W fun e w' => e = .returned (.tuple #[.int .i64 (plcI i), .bool true]) ∧ W.grownBy w' none) := hid (fun W => pplace_any wt i W hr hl)
  have hp := plcI_bd hr hl
  have hpn : plcI i = (plcN i : Int) := by unfold plcN; omega
  obtain ⟨L, hL⟩ : ∃ L, L = inCells wt i := ⟨_, rfl⟩
  have hLl : L.length = 24 := by rw [hL]; rfl
  obtain ⟨lt, hlt⟩ : ∃ lt, lt = latF i.facts := ⟨_, rfl⟩
  rw [hpn] at HP
  rw [← hL] at HP ⊢
  rw [← hlt]
  obtain ⟨p, hpp⟩ : ∃ p, p = plcN i := ⟨_, rfl⟩
  have hp9 : p ≤ 8999 := by omega
  rw [← hpp] at HP hb ht
  have HIL : Hid ((Try.prog.info? 138).map (·.size) = some L.length) := hid (by rw [hLl]; exact info_inst)
  have HBN : Hid ((w.alloc (.cells L.toArray 138)).heap[w.heap.size]? = some (.cells L.toArray 138 (0, 0))) := hid (heap_alloc_new w _)
  have HRL : Hid ((w.alloc (.cells L.toArray 138)).rangeAt w.heap.size 0 L) := hid (range_of_blk HBN.out rfl)
  have HL2 : Hid (L[2]? = some (.int .i64 lt)) := hid (by rw [hL, hlt]; rfl)
  have HM := hid hm
  have HB := hid hb
  have HT := hid ht
  have p0 : (0 : Int) ≤ (p : Int) := by omega
  have p9 : (p : Int) < (N : Int) := by omega
  obtain ⟨res, hres⟩ : ∃ res, res = (b && (t == lt)) := ⟨_, rfl⟩
  rw [← hres]
  have HRES := hid hres
  clear hres hL hlt hpp hpn hp hm hb ht hN hp9
  go_enter Try.func58, Try.ntmps58
  go_wp2_with (first
    | (refine wpList_load_mid rfl 138 (.tmp 3) rfl w.heap.size 0 rfl L _ HRL.out Try.underlying138 rfl HIL.out ?_))
  go_at_call 76
  refine (HP.out _).mono ?_
  rintro e w1 ⟨rfl, hg1⟩
  have HG1 := hid (grown_trans (grown_alloc (grown_refl w none) _) hg1)
  have hm1 := grown_cell HG1.out HM.out
  have hb1 := grown_cell HG1.out HB.out
  have ht1 := grown_cell HG1.out HT.out
  have hl1 : w1.cell? ⟨w.heap.size, 2, none⟩ = some (.int .i64 lt) := cell_list ((hg1.block _ (lt_of_block HBN.out) (by simp)).trans HBN.out) HL2.out
  have hq1 := mark_eq w1 b t lt
  have hq2 := mark_guard w1
  have hq3 := mark_eq w1.drew b t lt
  have hq4 := mark_guard w1.drew
  have hq5 := fun W => mark_eq W b t lt
  have hq6 := mark_guard
  clear hg1 HP
  go_wp2_with fail
  go_quiet ((fail))
  go_wp2_with fail
  go_ret
  refine ⟨?_, grown_drewN HG1.out _⟩
  rw [HRES.out]
  rfl

end Go.Proofs.Ythlhbjnkohinmaa

/- The program's memory: an instantiation is remembered as fired. -/
namespace Go.Proofs.Ythlhbjnkohinmaa
open Go.RowKit

theorem wpList_make_run {P : Program} {ops : Array Oper} {rest : List Oper} {op : Oper} {a : Act} {w : World} {Q : Exit → Act → World → Prop} (hgd : op.guard = none) (t : TypeId) (l c : Operand) (ho : op.op = .makeSlice t l c)
    (vl vc v : Value) (w' : World) (hl : a.eval l = vl) (hc : a.eval c = vc) (hrun : (Instr.makeSlice t vl vc).run P w = .ok v w') (h : wpList P ops Q rest (a.put op.dst v) w') : wpList P ops Q (op :: rest) a w :=
  wpList_plain hgd fun _ hK => by
    unfold Oper.wp execOp
    simp only [ho, hl, hc, Sem.run_bind, Sem.run_pure, hrun, Result.andThen_ok]
    exact hK _ _ h

set_option maxRecDepth 20000 in
set_option maxHeartbeats 1000000 in
theorem padd_some (wt : Int) (i : In) (x o g N : Nat) (u0 u1 : Value) (w : World) (hr : i.rule < 9) (hl : i.facts.length ≤ 3) (hm : w.cell? ⟨x, o, none⟩ = some (.slice (some ⟨g, 0, none⟩) N N)) (hN : N = 9000)
    (hb : w.cell? ⟨g, plcN i * 2, none⟩ = some u0) (ht : w.cell? ⟨g, plcN i * 2 + 1, none⟩ = some u1) (hz : ∀ j, w.frozen? ⟨g, j, none⟩ = false) (hxg : x ≠ g) :
    Calls Try.prog 80 #[.pointer (some ⟨x, o, none⟩), .agg (inCells wt i).toArray] w fun e w' => e = .returned (.tuple #[]) ∧ ∃ w1 m, w.grownBy w1 none ∧ w' = ((w1.setCell ⟨g, plcN i * 2, none⟩ (.bool true)).setCell ⟨g, plcN i * 2 + 1, none⟩ (.int .i64 (latF i.facts))).drewN m := by
  have HP : Hid (∀ W, Calls Try.prog 76 #[.agg (inCells wt i).toArray] W fun e w' => e = .returned (.tuple #[.int .i64 (plcI i), .bool true]) ∧ W.grownBy w' none) := hid (fun W => pplace_any wt i W hr hl)
  have hp := plcI_bd hr hl
  have hpn : plcI i = (plcN i : Int) := by unfold plcN; omega
  obtain ⟨L, hL⟩ : ∃ L, L = inCells wt i := ⟨_, rfl⟩
  have hLl : L.length = 24 := by rw [hL]; rfl
  obtain ⟨lt, hlt⟩ : ∃ lt, lt = latF i.facts := ⟨_, rfl⟩
  rw [hpn] at HP
  rw [← hL] at HP ⊢
  rw [← hlt]
  obtain ⟨p, hpp⟩ : ∃ p, p = plcN i := ⟨_, rfl⟩
  have hp9 : p ≤ 8999 := by omega
  rw [← hpp] at HP hb ht ⊢
  have HIL : Hid ((Try.prog.info? 138).map (·.size) = some L.length) := hid (by rw [hLl]; exact info_inst)
  have HBN : Hid ((w.alloc (.cells L.toArray 138)).heap[w.heap.size]? = some (.cells L.toArray 138 (0, 0))) := hid (heap_alloc_new w _)
  have HRL : Hid ((w.alloc (.cells L.toArray 138)).rangeAt w.heap.size 0 L) := hid (range_of_blk HBN.out rfl)
  have HL2 : Hid (L[2]? = some (.int .i64 lt)) := hid (by rw [hL, hlt]; rfl)
  have hgl : g < w.heap.size := World.block_lt_of_cell? w _ hb
  have hxl : x < w.heap.size := World.block_lt_of_cell? w _ hm
  have HM := hid hm
  have HB := hid hb
  have HT := hid ht
  have HZ := hid hz
  have p0 : (0 : Int) ≤ (p : Int) := by omega
  have p9 : (p : Int) < (N : Int) := by omega
  have hNz : ((N : Int) == 0) = false := by
    have : (N : Int) ≠ 0 := by omega
    simpa using this
  have hm0 : (w.alloc (.cells L.toArray 138)).cell? ⟨x, o, none⟩ = some (.slice (some ⟨g, 0, none⟩) N N) := grown_cell (grown_alloc (grown_refl w none) _) hm
  have hxz : x ≠ w.heap.size := by omega
  have hgz : g ≠ w.heap.size := by omega
  have hgx := hxg.symm
  clear hL hlt hpp hpn hp hm hb ht hN hp9 hz
  go_enter Try.func80, Try.ntmps80
  go_wp2_with (first
    | (refine wpList_load_mid rfl 138 (.tmp 3) rfl w.heap.size 0 rfl L _ HRL.out Try.underlying138 rfl HIL.out ?_))
  go_at_call 76
  refine (HP.out _).mono ?_
  rintro e w1 ⟨rfl, hg1⟩
  have HG1 := hid (grown_trans (grown_alloc (grown_refl w none) _) hg1)
  have hm1 := grown_cell HG1.out HM.out
  have hb1 := grown_cell HG1.out HB.out
  have ht1 := grown_cell HG1.out HT.out
  have hl1 : w1.cell? ⟨w.heap.size, 2, none⟩ = some (.int .i64 lt) := cell_list ((hg1.block _ (lt_of_block HBN.out) (by simp)).trans HBN.out) HL2.out
  have hz1 : ∀ j, w1.frozen? ⟨g, j, none⟩ = false := fun j => by
    have hb2 := HG1.out.block g hgl (by simp)
    have := HZ.out j
    unfold World.frozen? at this ⊢
    simp only at this ⊢
    rw [hb2]
    exact this
  clear hg1 HP
  go_wp2_with fail
  go_region
  all_goals go_wp2_with fail
  all_goals go_returns
  all_goals exact ⟨rfl, w1, 1, HG1.out, rfl⟩

end Go.Proofs.Ythlhbjnkohinmaa

/- The program's memory: the first instantiation is remembered as fired. -/
namespace Go.Proofs.Ythlhbjnkohinmaa
open Go.RowKit

/-- No mark at all. -/
def noMarks (Z : Array Value) : Prop := ∀ j, j < 9000 → Z[j * 2]? = some (.bool false) ∧ Z[j * 2 + 1]? = some (.int .i64 0)
theorem Try.infoM : (Try.prog.info? 168).map (fun i => (i.zero, i.size, i.bytes)) = some (some (.agg #[.bool false, .int .i64 0]), 2, 16) := by kernel_rfl
theorem make_marks (w : World) : ∃ Z, noMarks Z ∧ (Instr.makeSlice 80 (.int .i64 9000) (.int .i64 9000)).run Try.prog w = .ok (.slice (some ⟨w.heap.size, 0, none⟩) 9000 9000) (w.alloc (.cells Z 168)) := by
  obtain ⟨i0, hi0, hz0, hz1, hz2⟩ := info_parts Try.infoM
  have := run_make (P := Try.prog) w 80 168 i0 (.agg #[.bool false, .int .i64 0]) Try.underlying80 hi0 hz0 .i64 .i64 9000 9000 (by omega) (by omega) (by rw [hz2]; omega) (by omega)
  refine ⟨_, ?_, this⟩
  intro j hj
  rw [hz1]
  unfold madeCells
  have h1 : j * 2 < (9000 : Int).toNat * 2 := by simp; omega
  have h2 : j * 2 + 1 < (9000 : Int).toNat * 2 := by simp; omega
  refine ⟨?_, ?_⟩
  · rw [Array.getElem?_map, Array.getElem?_range, if_pos h1]
    have e : j * 2 % 2 = 0 := by omega
    simp [Value.cells, e]
  · rw [Array.getElem?_map, Array.getElem?_range, if_pos h2]
    have e : (j * 2 + 1) % 2 = 1 := by omega
    simp [Value.cells, e]

set_option maxRecDepth 20000 in
set_option maxHeartbeats 1000000 in
theorem padd_none (wt : Int) (i : In) (x o N : Nat) (w : World) (hr : i.rule < 9) (hl : i.facts.length ≤ 3) (hm : w.cell? ⟨x, o, none⟩ = some (.slice none 0 0)) (hN : N = 9000) (hz : w.frozen? ⟨x, o, none⟩ = false) :
    Calls Try.prog 80 #[.pointer (some ⟨x, o, none⟩), .agg (inCells wt i).toArray] w fun e w' => e = .returned (.tuple #[]) ∧ ∃ L Z w1 m, noMarks Z ∧ (((w.setCell ⟨x, o, none⟩ (.slice (some ⟨w.heap.size + 1, 0, none⟩) N N)).alloc (.cells L 138)).alloc (.cells Z 168)).grownBy w1 none ∧ w' = ((w1.setCell ⟨w.heap.size + 1, plcN i * 2, none⟩ (.bool true)).setCell ⟨w.heap.size + 1, plcN i * 2 + 1, none⟩ (.int .i64 (latF i.facts))).drewN m := by
  have HP : Hid (∀ W, Calls Try.prog 76 #[.agg (inCells wt i).toArray] W fun e w' => e = .returned (.tuple #[.int .i64 (plcI i), .bool true]) ∧ W.grownBy w' none) := hid (fun W => pplace_any wt i W hr hl)
  have hp := plcI_bd hr hl
  have hpn : plcI i = (plcN i : Int) := by unfold plcN; omega
  obtain ⟨L, hL⟩ : ∃ L, L = inCells wt i := ⟨_, rfl⟩
  have hLl : L.length = 24 := by rw [hL]; rfl
  obtain ⟨lt, hlt⟩ : ∃ lt, lt = latF i.facts := ⟨_, rfl⟩
  rw [hpn] at HP
  rw [← hL] at HP ⊢
  rw [← hlt]
  obtain ⟨p, hpp⟩ : ∃ p, p = plcN i := ⟨_, rfl⟩
  have hp9 : p ≤ 8999 := by omega
  rw [← hpp] at HP ⊢
  have hxl : x < w.heap.size := World.block_lt_of_cell? w _ hm
  obtain ⟨Z, hZ, hmk⟩ := make_marks (w.alloc (.cells L.toArray 138))
  have hsz1 : (w.alloc (.cells L.toArray 138)).heap.size = w.heap.size + 1 := by simp
  rw [hsz1] at hmk
  have hmkN : (Instr.makeSlice 80 (.int .i64 9000) (.int .i64 9000)).run Try.prog (w.alloc (.cells L.toArray 138)) = .ok (.slice (some ⟨w.heap.size + 1, 0, none⟩) N N) ((w.alloc (.cells L.toArray 138)).alloc (.cells Z 168)) := by rw [hN]; exact hmk
  have HMK := hid hmkN
  have HZ := hid hZ
  obtain ⟨W3, hW3⟩ : ∃ W3, W3 = ((w.setCell ⟨x, o, none⟩ (.slice (some ⟨w.heap.size + 1, 0, none⟩) N N)).alloc (.cells L.toArray 138)).alloc (.cells Z 168) := ⟨_, rfl⟩
  have ssz : (w.setCell ⟨x, o, none⟩ (.slice (some ⟨w.heap.size + 1, 0, none⟩) N N)).heap.size = w.heap.size := by simp [World.setCell]
  have b0 : W3.heap[w.heap.size]? = some (.cells L.toArray 138 (0, 0)) := by
    rw [hW3, Below.heap_alloc _ _ _ (by simp [ssz])]
    exact pblk_at ssz.symm
  have b1 : W3.heap[w.heap.size + 1]? = some (.cells Z 168 (0, 0)) := by
    rw [hW3]
    exact pblk_at (by simp [ssz])
  have cx : W3.cell? ⟨x, o, none⟩ = some (.slice (some ⟨w.heap.size + 1, 0, none⟩) N N) := by
    rw [hW3, World.cell?_alloc_lt _ _ _ (by simp [ssz]; omega), World.cell?_alloc_lt _ _ _ (by simp [ssz]; omega)]
    exact World.cell?_setCell_same _ _ _ hm
  have HIL : Hid ((Try.prog.info? 138).map (·.size) = some L.length) := hid (by rw [hLl]; exact info_inst)
  have HRL : Hid (W3.rangeAt w.heap.size 0 L) := hid (range_of_blk b0 rfl)
  have HL2 : Hid (L[2]? = some (.int .i64 lt)) := hid (by rw [hL, hlt]; rfl)
  have HB0 := hid b0
  have HB1 := hid b1
  have HCX := hid cx
  have HW3 : Hid (((w.setCell ⟨x, o, none⟩ (.slice (some ⟨w.heap.size + 1, 0, none⟩) N N)).alloc (.cells L.toArray 138)).alloc (.cells Z 168) = W3) := hid hW3.symm
  have HP9 : Hid (p < 9000) := hid (by omega)
  have p0 : (0 : Int) ≤ (p : Int) := by omega
  have p9 : (p : Int) < (N : Int) := by omega
  have hxz : x ≠ w.heap.size := by omega
  have hxz1 : x ≠ w.heap.size + 1 := by omega
  have hxz2 := hxz1.symm
  clear hL hlt hpp hpn hp hN hp9 hZ hmk hmkN b0 b1 cx hW3 ssz hsz1
  go_enter Try.func80, Try.ntmps80
  go_wp2_with (first
    | (refine wpList_make_run rfl 80 _ _ rfl _ _ _ _ rfl rfl HMK.out ?_)
    | (rw [HW3.out]; refine wpList_load_mid rfl 138 (.tmp 3) rfl w.heap.size 0 rfl L _ HRL.out Try.underlying138 rfl HIL.out ?_))
  go_at_call 76
  refine (HP.out _).mono ?_
  rintro e w1 ⟨rfl, hg1⟩
  have HG1 := hid hg1
  have hm1 := grown_cell hg1 HCX.out
  have bb1 := (hg1.block _ (lt_of_block HB1.out) (by simp)).trans HB1.out
  have hb1 : w1.cell? ⟨w.heap.size + 1, p * 2, none⟩ = some (.bool false) := by rw [cell_of_row _ _ _ _ _ _ bb1]; exact (HZ.out p HP9.out).1
  have ht1 : w1.cell? ⟨w.heap.size + 1, p * 2 + 1, none⟩ = some (.int .i64 0) := by rw [cell_of_row _ _ _ _ _ _ bb1]; exact (HZ.out p HP9.out).2
  have hl1 : w1.cell? ⟨w.heap.size, 2, none⟩ = some (.int .i64 lt) := cell_list ((hg1.block _ (lt_of_block HB0.out) (by simp)).trans HB0.out) HL2.out
  have hz1 : ∀ j, w1.frozen? ⟨w.heap.size + 1, j, none⟩ = false := frozen_blk bb1
  clear hg1 HP bb1
  go_wp2_with fail
  go_region
  all_goals go_wp2_with fail
  all_goals go_returns
  all_goals exact ⟨rfl, L.toArray, Z, w1, 1, HZ.out, by rw [HW3.out]; exact HG1.out, rfl⟩

end Go.Proofs.Ythlhbjnkohinmaa

/- The program's sessions: the first open instantiation. -/
namespace Go.Proofs.Ythlhbjnkohinmaa
open Go.RowKit

/-- A session's marks in memory: which places have one, and its time. -/
def MkAt (mks : Option Nat) (fm : Nat → Option Int) (w : World) : Prop := match mks with
  | none => ∀ p, p < 9000 → fm p = none
  | some g => ∃ Z, w.heap[g]? = some (.cells Z 168 (0, 0)) ∧ ∀ p, p < 9000 → Z[p * 2]? = some (.bool (fm p).isSome) ∧ Z[p * 2 + 1]? = some (.int .i64 ((fm p).getD 0))
theorem MkAt.grown {mks : Option Nat} {fm : Nat → Option Int} {w w' : World} (h : MkAt mks fm w) (hg : w.grownBy w' none) : MkAt mks fm w' := by
  cases mks with
  | none => exact h
  | some g =>
    obtain ⟨Z, h1, h2⟩ := h
    exact ⟨Z, (hg.block g (lt_of_block h1) (by simp)).trans h1, h2⟩
/-- Is an instantiation marked, at the time that its facts have? -/
def fdM (fm : Nat → Option Int) (i : In) : Bool := (fm (plcN i)).isSome && ((fm (plcN i)).getD 0 == latF i.facts)
theorem plcN_lt {i : In} (hr : i.rule < 9) (hl : i.facts.length ≤ 3) : plcN i < 9000 := by
  have := plcI_bd hr hl
  unfold plcN
  omega
theorem phas_any (wt : Int) (i : In) (x o : Nat) (mks : Option Nat) (fm : Nat → Option Int) (w : World) (hr : i.rule < 9) (hl : i.facts.length ≤ 3) (hm : w.cell? ⟨x, o, none⟩ = some (mkV mks)) (hM : MkAt mks fm w) :
    Calls Try.prog 58 #[.pointer (some ⟨x, o, none⟩), .agg (inCells wt i).toArray] w fun e w' => e = .returned (.bool (fdM fm i)) ∧ w.grownBy w' none := by
  have hp := plcN_lt hr hl
  cases mks with
  | none =>
    have e : fdM fm i = false := by
      unfold fdM
      rw [hM _ hp]
      rfl
    rw [e]
    exact phas_none wt i x o w hr hl hm
  | some g =>
    obtain ⟨Z, h1, h2⟩ := hM
    obtain ⟨a1, a2⟩ := h2 _ hp
    exact phas_some wt i x o g 9000 _ _ w hr hl hm rfl (by rw [cell_of_row _ _ _ _ _ _ h1]; exact a1) (by rw [cell_of_row _ _ _ _ _ _ h1]; exact a2)

set_option maxRecDepth 20000 in
set_option maxHeartbeats 1000000 in
theorem sfirst_any (b o : Nat) (S : PSes) (f : Nat → Int × Option Int) (sl : List Value) (s : ByteArray) (R : List RuleP) (ra : Option Addr) (rc B : Nat) (fm : Nat → Option Int) (w : World) (h : SesAt w b o S) (hsc : StArr sl.toArray 60 f) (hM : MkAt S.mks fm w)
    (hR : ∀ r ∈ R, RulW s r) (hR9 : R.length ≤ 9) (hrow : RulesOwn w B s (.slice ra R.length rc) R) :
    Calls Try.prog 61 #[.pointer (some ⟨b, o, none⟩), .slice ra R.length rc, .agg sl.toArray] w fun e w' => e = .returned (.tuple #[.agg (fstL (wgt s R) (fstI (wgt s R) (opN s (sawN S f 60) R (fdM fm) R.length))).toArray, .bool (fstI (wgt s R) (opN s (sawN S f 60) R (fdM fm) R.length)).isSome]) ∧ w.grownBy w' none := by
  have hFl := sawN_le S f 60
  have hmk := h.mks
  have hbl : b < w.heap.size := World.block_lt_of_cell? w _ h.num
  have hsl : sl.length = 180 := by have := hsc.size; simpa using this
  have HSE : Hid (∀ W, w.grownBy W none → Calls Try.prog 47 #[.pointer (some ⟨b, o, none⟩), .agg sl.toArray] W fun e w' => ∃ v, e = .returned v ∧ w'.ownsRow W.heap.size 97 4 v (sawN S f 60).length (fcCells (sawN S f 60)) ∧ W.grownBy w' none) := hid (fun W hW => by
    refine ssees_any b o S f sl.toArray W ?_ hsc
    exact ⟨grown_cell hW h.num, grown_cell hW h.snap, grown_cell hW h.cnt, fun c hc => grown_cell hW (h.made c hc), fun c hc => grown_cell hW (h.filled c hc), fun c hc => grown_cell hW (h.val c hc), fun c hc => grown_cell hW (h.tm c hc), grown_cell hW h.mks, h.ok⟩)
  obtain ⟨F, hF⟩ : ∃ F, F = sawN S f 60 := ⟨_, rfl⟩
  rw [← hF] at HSE hFl ⊢
  have HFI : Hid (∀ (W : World) (fa : Option Addr) (fc B2 : Nat), w.grownBy W none → W.ownsRow B2 97 4 (.slice fa F.length fc) F.length (fcCells F) → Calls Try.prog 78 #[.slice ra R.length rc, .slice fa F.length fc, .pointer (some ⟨b, o + 243, none⟩)] W fun e w' => e = .returned (.tuple #[.agg (fstL (wgt s R) (fstI (wgt s R) (opN s F R (fdM fm) R.length))).toArray, .bool (fstI (wgt s R) (opN s F R (fdM fm) R.length)).isSome]) ∧ W.grownBy w' none) := hid (fun W fa fc B2 hW hfr => by
    obtain ⟨xs, r1, r2⟩ := hrow
    refine pfirst_any s F R ra fa rc fc B B2 b (o + 243) (fdM fm) W hR hR9 ⟨xs, own_kept r1 hW (fun g hg => by cases hg), Parts_kept hW (fun g hg => by cases hg) R xs r2⟩ hFl hfr (hid (fun k hk i W2 hi hW2 => ?_))
    obtain ⟨a1, a2⟩ := instR_mem hFl k (hR _ (List.getElem_mem hk)) i hi
    have hg2 := grown_trans hW hW2
    exact phas_any _ i b (o + 243) S.mks fm W2 (by omega) a1 (grown_cell hg2 hmk) (hM.grown hg2))
  obtain ⟨bi, hbi⟩ : ∃ bi, bi = fstI (wgt s R) (opN s F R (fdM fm) R.length) := ⟨_, rfl⟩
  obtain ⟨M, hMM⟩ : ∃ M, M = fstL (wgt s R) bi := ⟨_, rfl⟩
  rw [← hbi, ← hMM] at HFI ⊢
  have hMl : M.length = 24 := by rw [hMM]; exact fstL_len _ _
  have HIMs : Hid ((Try.prog.info? 138).map (·.size) = some M.toArray.size) := hid (by rw [List.size_toArray, hMl]; exact info_inst)
  have HOM : Hid (M.toArray.all (·.oneCell') = true) := hid (all_oneCell_toArray (by rw [hMM]; exact fstL_one _ _))
  obtain ⟨fo, hfo⟩ : ∃ fo, fo = bi.isSome := ⟨_, rfl⟩
  rw [← hfo] at HFI ⊢
  have HISL : Hid ((Try.prog.info? 109).map (·.size) = some sl.length) := hid (by rw [hsl]; kernel_rfl)
  have HW2 : Hid (w.grownBy ((w.alloc (.cells sl.toArray 109)).alloc (.cells #[.int .i64 0, .int .i64 0, .int .i64 0, .int .i64 0, .int .i64 0, .int .i64 0, .int .i64 0, .int .i64 0, .int .i64 0, .int .i64 0, .int .i64 0, .int .i64 0, .int .i64 0, .int .i64 0, .int .i64 0, .int .i64 0, .bool false, .bool false, .bool false, .bool false, .int .i64 0, .int .i64 0, .int .i64 0, .int .i64 0] 138)) none) := hid (grown_alloc (grown_alloc (grown_refl _ _) _) _)
  have HRS : Hid (((w.alloc (.cells sl.toArray 109)).alloc (.cells #[.int .i64 0, .int .i64 0, .int .i64 0, .int .i64 0, .int .i64 0, .int .i64 0, .int .i64 0, .int .i64 0, .int .i64 0, .int .i64 0, .int .i64 0, .int .i64 0, .int .i64 0, .int .i64 0, .int .i64 0, .int .i64 0, .bool false, .bool false, .bool false, .bool false, .int .i64 0, .int .i64 0, .int .i64 0, .int .i64 0] 138)).rangeAt w.heap.size 0 sl) := hid (range_of_blk ((Below.heap_alloc _ _ _ (by simp)).trans (heap_alloc_new w _)) rfl)
  have HBR : Hid (((w.alloc (.cells sl.toArray 109)).alloc (.cells #[.int .i64 0, .int .i64 0, .int .i64 0, .int .i64 0, .int .i64 0, .int .i64 0, .int .i64 0, .int .i64 0, .int .i64 0, .int .i64 0, .int .i64 0, .int .i64 0, .int .i64 0, .int .i64 0, .int .i64 0, .int .i64 0, .bool false, .bool false, .bool false, .bool false, .int .i64 0, .int .i64 0, .int .i64 0, .int .i64 0] 138)).heap[w.heap.size + 1]? = some (.cells ([.int .i64 0, .int .i64 0, .int .i64 0, .int .i64 0, .int .i64 0, .int .i64 0, .int .i64 0, .int .i64 0, .int .i64 0, .int .i64 0, .int .i64 0, .int .i64 0, .int .i64 0, .int .i64 0, .int .i64 0, .int .i64 0, .bool false, .bool false, .bool false, .bool false, .int .i64 0, .int .i64 0, .int .i64 0, .int .i64 0] : List Value).toArray 138 (0, 0))) := hid (pblk_at (by simp))
  clear h hsc hM hR hrow hF hbi hMM hfo hmk
  go_enter Try.func61, Try.ntmps61
  go_wp2_with (first
    | (refine wpList_load_mid rfl 109 (.tmp 5) rfl w.heap.size 0 rfl sl _ HRS.out Try.underlying109 rfl HISL.out ?_))
  go_at_call 47
  refine (HSE.out _ HW2.out).mono ?_
  rintro e w1 ⟨v, rfl, hown, hg1⟩
  obtain ⟨fa, fmm, fc, rfl⟩ := own_slice hown
  have em := own_len hown
  subst em
  have HG1 := hid (grown_trans HW2.out hg1)
  have HOW := hid hown
  have hbr1 := (hg1.block _ (lt_of_block HBR.out) (by simp)).trans HBR.out
  have HBR1 := hid hbr1
  clear hown hg1 hbr1 HSE
  go_wp2_with fail
  go_at_call 78
  refine (HFI.out _ _ _ _ HG1.out HOW.out).mono ?_
  rintro e w2 ⟨rfl, hg2⟩
  have hbr2 := (hg2.block _ (lt_of_block HBR1.out) (by simp)).trans HBR1.out
  have HTH : Hid (w2.there (w.heap.size + 1) 0 M.toArray.size) := hid (there_drop hbr2 (by simp [hMl]))
  have HBF : Hid ((w2.setCells (w.heap.size + 1) 0 M).heap[w.heap.size + 1]? = some (.cells M.toArray 138 (0, 0))) := hid (blk_whole hbr2 (by rw [hMl]; rfl))
  have HGF : Hid (w.grownBy (w2.setCells (w.heap.size + 1) 0 M) none) := hid (grown_setCells (by omega) _ _ (grown_trans HG1.out hg2))
  clear hg2 hbr2 HFI
  go_wp2_with (first
    | (refine wpList_store_mid rfl 138 (.tmp 6) (.tmp 18) rfl (w.heap.size + 1) 0 M.toArray rfl rfl HTH.out HIMs.out HOM.out ?_))
  refine bodyPost_ret (res_ct Try.results61 rfl HBF.out Try.underlying138 rfl HIMs.out rfl) rfl ⟨rfl, HGF.out⟩

end Go.Proofs.Ythlhbjnkohinmaa

/- The program's sessions: an instantiation is remembered. -/
namespace Go.Proofs.Ythlhbjnkohinmaa
open Go.RowKit

/-- A session in block b from o on was changed, and its marks; nothing else, but for new blocks. -/
structure FTo (b o : Nat) (G : List Nat) (w w' : World) : Prop where
  fr : Fr (b :: G) w w'
  cell : ∀ i, (i < o ∨ o + 244 ≤ i) → w'.cell? ⟨b, i, none⟩ = w.cell? ⟨b, i, none⟩
  blk : ∀ {cs : Array Value} {t : TypeId}, w.heap[b]? = some (.cells cs t (0, 0)) → ∃ cs', w'.heap[b]? = some (.cells cs' t (0, 0))
theorem own_fr {w w' : World} {B : Nat} {e : TypeId} {size : Nat} {v : Value} {n : Nat} {xs : List Value} {F : List Nat} (h : w.ownsRow B e size v n xs) (hf : Fr F w w') (hF : ∀ g ∈ F, g < B) : w'.ownsRow B e size v n xs := by
  obtain ⟨h1, h2⟩ := h
  refine ⟨h1, ?_⟩
  rcases h2 with h2 | ⟨g, cap, cur, rfl, hb, hh, h3⟩
  · exact .inl h2
  · exact .inr ⟨g, cap, cur, rfl, hb, (hf.block g (lt_of_block hh) (fun hm => by have := hF g hm; omega)).trans hh, h3⟩
/-- What remembering leaves. -/
def AddTo (b o : Nat) (S : PSes) (fm : Nat → Option Int) (p : Nat) (t : Int) (w w' : World) : Prop := ∃ g, SesAt w' b o { S with mks := some g } ∧ MkAt (some g) (upd fm p (some t)) w' ∧ FTo b o S.mks.toList w w' ∧ g ≠ b ∧ (S.mks = some g ∨ w.heap.size ≤ g)
theorem marks_set {Z : Array Value} {fm : Nat → Option Int} {p : Nat} {t : Int} (hp : p < 9000) (h : ∀ q, q < 9000 → Z[q * 2]? = some (.bool (fm q).isSome) ∧ Z[q * 2 + 1]? = some (.int .i64 ((fm q).getD 0))) :
    ∀ q, q < 9000 → ((Z.setIfInBounds (p * 2) (.bool true)).setIfInBounds (p * 2 + 1) (.int .i64 t))[q * 2]? = some (.bool (upd fm p (some t) q).isSome) ∧ ((Z.setIfInBounds (p * 2) (.bool true)).setIfInBounds (p * 2 + 1) (.int .i64 t))[q * 2 + 1]? = some (.int .i64 ((upd fm p (some t) q).getD 0)) := by
  intro q hq
  have s0 : p * 2 < Z.size := (Array.getElem?_eq_some_iff.mp (h p hp).1).1
  have s1 : p * 2 + 1 < Z.size := (Array.getElem?_eq_some_iff.mp (h p hp).2).1
  by_cases e : q = p
  · subst e
    rw [upd_same]
    refine ⟨?_, ?_⟩
    · rw [Array.getElem?_setIfInBounds_ne (by omega), Array.getElem?_setIfInBounds_self_of_lt s0]
      rfl
    · rw [Array.getElem?_setIfInBounds_self_of_lt (by simpa using s1)]
      rfl
  · rw [upd_ne _ _ _ e]
    refine ⟨?_, ?_⟩
    · rw [Array.getElem?_setIfInBounds_ne (by omega), Array.getElem?_setIfInBounds_ne (by omega)]
      exact (h q hq).1
    · rw [Array.getElem?_setIfInBounds_ne (by omega), Array.getElem?_setIfInBounds_ne (by omega)]
      exact (h q hq).2
theorem ses_cells {w w' : World} {b o : Nat} {S : PSes} {m : Option Nat} (h : SesAt w b o S) (hc : ∀ i, i ≠ o + 243 → w'.cell? ⟨b, i, none⟩ = w.cell? ⟨b, i, none⟩) (hm : w'.cell? ⟨b, o + 243, none⟩ = some (mkV m)) : SesAt w' b o { S with mks := m } :=
  ⟨(hc _ (by omega)).trans h.num, (hc _ (by omega)).trans h.snap, (hc _ (by omega)).trans h.cnt, fun c hl => (hc _ (by omega)).trans (h.made c hl), fun c hl => (hc _ (by omega)).trans (h.filled c hl), fun c hl => (hc _ (by omega)).trans (h.val c hl), fun c hl => (hc _ (by omega)).trans (h.tm c hl), hm, h.ok⟩
theorem pmadd_any (wt : Int) (i : In) (b o : Nat) (S : PSes) (fm : Nat → Option Int) (w : World) {cs : Array Value} {ty : TypeId} (hb : w.heap[b]? = some (.cells cs ty (0, 0))) (hr : i.rule < 9) (hl : i.facts.length ≤ 3) (h : SesAt w b o S) (hM : MkAt S.mks fm w) (hne : S.mks ≠ some b) :
    Calls Try.prog 80 #[.pointer (some ⟨b, o + 243, none⟩), .agg (inCells wt i).toArray] w fun e w' => e = .returned (.tuple #[]) ∧ AddTo b o S fm (plcN i) (latF i.facts) w w' := by
  have hp := plcN_lt hr hl
  have hbl := lt_of_block hb
  have hmk := h.mks
  cases hm : S.mks with
  | none =>
    rw [hm] at hmk hM
    refine (padd_none wt i b (o + 243) 9000 w hr hl hmk rfl (frozen_blk hb _)).mono ?_
    rintro e w' ⟨rfl, L, Z, w1, m, hZ, hg, rfl⟩
    refine ⟨rfl, ?_⟩
    have hgb : w.heap.size + 1 ≠ b := by omega
    have hbg := hgb.symm
    obtain ⟨v, hv⟩ : ∃ v, v = Value.slice (some ⟨w.heap.size + 1, 0, none⟩) 9000 9000 := ⟨_, rfl⟩
    rw [← hv] at hg
    have ssz : (w.setCell ⟨b, o + 243, none⟩ v).heap.size = w.heap.size := by simp [World.setCell]
    have hb3 : ∀ k, k < w.heap.size → (((w.setCell ⟨b, o + 243, none⟩ v).alloc (.cells L 138)).alloc (.cells Z 168)).heap[k]? = (w.setCell ⟨b, o + 243, none⟩ v).heap[k]? := fun k hk => by
      rw [Below.heap_alloc _ _ _ (by simp [ssz]; omega), Below.heap_alloc _ _ _ (by rw [ssz]; exact hk)]
    have hblk : ∀ k, k < w.heap.size → (((w1.setCell ⟨w.heap.size + 1, plcN i * 2, none⟩ (.bool true)).setCell ⟨w.heap.size + 1, plcN i * 2 + 1, none⟩ (.int .i64 (latF i.facts))).drewN m).heap[k]? = (w.setCell ⟨b, o + 243, none⟩ v).heap[k]? := fun k hk => by
      show (World.setCell (World.setCell _ _ _) _ _).heap[k]? = _
      rw [hs_ne (by omega), hs_ne (by omega), hg.block k (by simp [ssz]; omega) (by simp), hb3 k hk]
    have hcell : ∀ j, (((w1.setCell ⟨w.heap.size + 1, plcN i * 2, none⟩ (.bool true)).setCell ⟨w.heap.size + 1, plcN i * 2 + 1, none⟩ (.int .i64 (latF i.facts))).drewN m).cell? ⟨b, j, none⟩ = (w.setCell ⟨b, o + 243, none⟩ v).cell? ⟨b, j, none⟩ := fun j => by
      simp only [World.cell?, hblk b hbl]
    have hsz : w.heap.size + 1 + 1 ≤ w1.heap.size := by
      have := hg.size
      simp [ssz] at this
      omega
    have hZb : w1.heap[w.heap.size + 1]? = some (.cells Z 168 (0, 0)) := by
      rw [hg.block (w.heap.size + 1) (by simp [ssz]) (by simp)]
      exact pblk_at (by simp [ssz])
    refine ⟨w.heap.size + 1, ses_cells h (fun j hj => by rw [hcell, cell_set_ne hj]) (by rw [hcell, cell_set_eq hmk, hv]; rfl), ?_, ⟨?_, ?_, ?_⟩, hgb, .inr (by omega)⟩
    · refine ⟨_, blk_setCell (blk_setCell hZb (plcN i * 2) (.bool true)) (plcN i * 2 + 1) (.int .i64 (latF i.facts)), marks_set hp (fun q hq => ?_)⟩
      rw [hM q hq]
      exact hZ q hq
    · have f0 : Fr (b :: S.mks.toList) w (((w.setCell ⟨b, o + 243, none⟩ v).alloc (.cells L 138)).alloc (.cells Z 168)) := (((Fr.refl _ w).set (.inl (by simp)) v).alloc _).alloc _
      have f1 : Fr (b :: S.mks.toList) w w1 := f0.trans ((fr_none hg).mono (fun k hk => by cases hk))
      exact ((f1.set (.inr (by show w.heap.size ≤ w.heap.size + 1; omega)) _).set (.inr (by show w.heap.size ≤ w.heap.size + 1; omega)) _).drewN m
    · intro j hj
      rw [hcell, cell_set_ne (by omega)]
    · intro cs' t' hb'
      exact ⟨_, (hblk b hbl).trans (blk_setCell hb' _ _)⟩
  | some g =>
    rw [hm] at hmk hM hne
    have hgb : g ≠ b := fun e => hne (by rw [e])
    obtain ⟨Z, h1, h2⟩ := hM
    obtain ⟨a1, a2⟩ := h2 _ hp
    refine (padd_some wt i b (o + 243) g 9000 _ _ w hr hl hmk rfl (by rw [cell_of_row _ _ _ _ _ _ h1]; exact a1) (by rw [cell_of_row _ _ _ _ _ _ h1]; exact a2) (frozen_blk h1) hgb.symm).mono ?_
    rintro e w' ⟨rfl, w1, m, hg, rfl⟩
    refine ⟨rfl, ?_⟩
    have hgl := lt_of_block h1
    have hblk : ∀ k, k < w.heap.size → k ≠ g → (((w1.setCell ⟨g, plcN i * 2, none⟩ (.bool true)).setCell ⟨g, plcN i * 2 + 1, none⟩ (.int .i64 (latF i.facts))).drewN m).heap[k]? = w.heap[k]? := fun k hk hkg => by
      show (World.setCell (World.setCell _ _ _) _ _).heap[k]? = _
      rw [hs_ne hkg, hs_ne hkg, hg.block k hk (by simp)]
    have hcell : ∀ j, (((w1.setCell ⟨g, plcN i * 2, none⟩ (.bool true)).setCell ⟨g, plcN i * 2 + 1, none⟩ (.int .i64 (latF i.facts))).drewN m).cell? ⟨b, j, none⟩ = w.cell? ⟨b, j, none⟩ := fun j => by
      simp only [World.cell?, hblk b hbl hgb.symm]
    have hZb : w1.heap[g]? = some (.cells Z 168 (0, 0)) := (hg.block g hgl (by simp)).trans h1
    refine ⟨g, ses_cells h (fun j _ => hcell j) (by rw [hcell]; exact hmk), ?_, ⟨?_, fun j _ => hcell j, ?_⟩, hgb, .inl hm⟩
    · exact ⟨_, blk_setCell (blk_setCell hZb (plcN i * 2) (.bool true)) (plcN i * 2 + 1) (.int .i64 (latF i.facts)), marks_set hp h2⟩
    · have f1 : Fr (b :: S.mks.toList) w w1 := (fr_none hg).mono (fun k hk => by cases hk)
      exact ((f1.set (.inl (by rw [hm]; simp)) _).set (.inl (by rw [hm]; simp)) _).drewN m
    · intro cs' t' hb'
      exact ⟨_, (hblk b hbl hgb.symm).trans hb'⟩

end Go.Proofs.Ythlhbjnkohinmaa
