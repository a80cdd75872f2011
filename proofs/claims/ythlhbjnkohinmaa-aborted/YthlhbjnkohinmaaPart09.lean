import Derived.Test.YthlhbjnkohinmaaPart08
import Derived.Test.YthlhbjnkohinmaaPart02
import Derived.Lib.AppendStr
import Derived.Laws.IdiomStrings
/- The program's instantiations: put in order. -/
namespace Go.Proofs.Ythlhbjnkohinmaa
open Go.RowKit

theorem slice_head_run {P : Program} (w : World) (t e : TypeId) (ad : Option Addr) (n c i sz : Nat) (hu : P.underlying t = some (.slice e)) (hi : (P.info? e).map (·.size) = some sz) (h1 : i ≤ c) :
    (Instr.sliceAt t (.slice ad n c) none (some (.int .i64 i)) none).run P w = .ok (.slice ad i c) w := by
  cases hq : P.info? e with
  | none => simp [hq] at hi
  | some d =>
    have g2 : ad.map (fun x => x.add 0) = ad := by cases ad <;> simp [Addr.add]
    simp [Instr.sliceAt, Instr.slice, Instr.sliceBounds, Instr.sliceBound, underlying, sizeOf, typeInfo, hu, hq, asIntOf, g2]
    intro h
    omega
theorem wpList_slice_head {P : Program} {ops : Array Oper} {rest : List Oper} {op : Oper} {a : Act} {w : World} {Q : Exit → Act → World → Prop} (hgd : op.guard = none) (t e : TypeId) (x y : Operand) (ho : op.op = .slice t x none (some y) none)
    (ad : Option Addr) (n c i sz : Nat) (hx : a.eval x = .slice ad n c) (hy : a.eval y = .int .i64 i) (h1 : i ≤ c) (hu : P.underlying t = some (.slice e)) (hi : (P.info? e).map (·.size) = some sz)
    (h : wpList P ops Q rest (a.put op.dst (.slice ad i c)) w) : wpList P ops Q (op :: rest) a w :=
  wpList_plain hgd fun _ hK => by
    unfold Oper.wp execOp
    have := slice_head_run (P := P) w t e ad n c i sz hu hi h1
    simp only [ho, hx, hy, Option.map_some, Option.map_none, Sem.run_bind, Sem.run_pure, this, Result.andThen_ok]
    exact hK _ _ h

theorem ltI_weak (wt : Nat → Int) : Weak (ltI wt) := by
  refine ⟨fun {a b c} h1 h2 => ?_, fun {a b c} h1 h2 => ?_, fun a => ?_⟩
  · unfold ltI ahB at *
    split at h1 <;> split at h2 <;> split <;> simp only [decide_eq_true_eq] at * <;> omega
  · unfold ltI ahB at *
    split at h1 <;> split at h2 <;> split <;> simp only [decide_eq_false_iff_not] at * <;> omega
  · unfold ltI ahB
    simp
set_option maxRecDepth 20000 in
set_option maxHeartbeats 1000000 in
theorem pordered_any (wt : Nat → Int) : ∀ (n : Nat) (l : List In) (g o c : Nat) (w : World), l.length = n → n ≤ 2160000 → 0 < n → n ≤ c → g < w.heap.size → w.rangeAt g o (insW wt l) →
    Calls Try.prog 38 #[.slice (some ⟨g, o, none⟩) l.length c] w fun e w' => ∃ g' o' c', e = .returned (.slice (some ⟨g', o', none⟩) l.length c') ∧ l.length ≤ c' ∧ g' < w'.heap.size ∧ w'.rangeAt g' o' (insW wt (isort (ltI wt) l)) ∧ w.grownBy w' none := by
  intro n
  induction n using Nat.strongRecOn with
  | _ n ih =>
    intro l g o c w hln hn hn0 hc hgl hrg
    by_cases h2 : n < 2
    · have hl1 : l.length = 1 := by omega
      obtain ⟨x, rfl⟩ := List.length_eq_one_iff.mp hl1
      have HR := hid hrg
      have HE : Hid (isort (ltI wt) [x] = [x]) := hid rfl
      have hc1 : 1 ≤ c := by omega
      clear ih hrg hl1 hln
      simp only [List.length_cons, List.length_nil, Nat.zero_add]
      go_enter Try.func38, Try.ntmps38
      go_wp2_with fail
      go_ret
      exact ⟨g, o, c, rfl, hc1, hgl, by rw [HE.out]; exact HR.out, grown_refl _ _⟩
    · obtain ⟨hf, hhf⟩ : ∃ hf, hf = n / 2 := ⟨_, rfl⟩
      have hf1 : 0 < hf := by omega
      have hf2 : hf < n := by omega
      have hL1 : (l.take hf).length = hf := by rw [List.length_take]; omega
      have hL2 : (l.drop hf).length = n - hf := by rw [List.length_drop]; omega
      have hsp : insW wt l = insW wt (l.take hf) ++ insW wt (l.drop hf) := by rw [← insW_app, List.take_append_drop]
      have hr1 : w.rangeAt g o (insW wt (l.take hf)) := fun j v hv => hrg j v (by
        rw [hsp, List.getElem?_append_left (List.getElem?_eq_some_iff.1 hv).1]
        exact hv)
      have hr2 : w.rangeAt g (o + hf * 24) (insW wt (l.drop hf)) := fun j v hv => by
        have := hrg (hf * 24 + j) v (by
          rw [hsp, List.getElem?_append_right (by rw [insW_len, hL1]; omega), insW_len, hL1, show hf * 24 + j - hf * 24 = j by omega]
          exact hv)
        rw [← Nat.add_assoc] at this
        exact this
      have H1 : Hid (Calls Try.prog 38 #[.slice (some ⟨g, o, none⟩) hf c] w fun e w' => ∃ g' o' c', e = .returned (.slice (some ⟨g', o', none⟩) hf c') ∧ hf ≤ c' ∧ g' < w'.heap.size ∧ w'.rangeAt g' o' (insW wt (isort (ltI wt) (l.take hf))) ∧ w.grownBy w' none) := hid (by
        have := ih hf hf2 (l.take hf) g o c w hL1 (by omega) hf1 (by omega) hgl hr1
        rw [hL1] at this
        exact this)
      have H2 : Hid (∀ W, w.grownBy W none → Calls Try.prog 38 #[.slice (some ⟨g, o + hf * 24, none⟩) (n - hf) (c - hf)] W fun e w' => ∃ g' o' c', e = .returned (.slice (some ⟨g', o', none⟩) (n - hf) c') ∧ n - hf ≤ c' ∧ g' < w'.heap.size ∧ w'.rangeAt g' o' (insW wt (isort (ltI wt) (l.drop hf))) ∧ W.grownBy w' none) := hid (fun W hW => by
        have := ih (n - hf) (by omega) (l.drop hf) g (o + hf * 24) (c - hf) W hL2 (by omega) (by omega) (by omega) (Nat.lt_of_lt_of_le hgl hW.size) (range_grown hr2 hW)
        rw [hL2] at this
        exact this)
      have HM : Hid (∀ (g1 o1 c1 g2 o2 c2 : Nat) (W : World), hf ≤ c1 → n - hf ≤ c2 → g1 < W.heap.size → g2 < W.heap.size → W.rangeAt g1 o1 (insW wt (isort (ltI wt) (l.take hf))) → W.rangeAt g2 o2 (insW wt (isort (ltI wt) (l.drop hf))) → Calls Try.prog 59 #[.slice (some ⟨g1, o1, none⟩) hf c1, .slice (some ⟨g2, o2, none⟩) (n - hf) c2] W fun e w' => ∃ v, e = .returned v ∧ w'.ownsRow W.heap.size 138 24 v n (insW wt (isort (ltI wt) l)) ∧ W.grownBy w' none) := hid (fun g1 o1 c1 g2 o2 c2 W a1 a2 a3 a4 a5 a6 => by
        have := pmerged_any wt (isort (ltI wt) (l.take hf)) (isort (ltI wt) (l.drop hf)) g1 o1 c1 g2 o2 c2 W (by rw [isort_len]; omega) (by rw [isort_len]; omega) (by rw [isort_len]; omega) (by rw [isort_len]; omega) a3 a4 a5 a6
        rw [mrg_sorts (ltI_weak wt), List.take_append_drop, isort_len, isort_len, isort_len, hL1, hL2, hln] at this
        exact this)
      have hq : Int.tdiv (n : Int) 2 = (hf : Int) := by rw [Int.tdiv_eq_ediv_of_nonneg (by omega), hhf]; omega
      have HII : Hid ((Try.prog.info? 138).map (·.size) = some 24) := hid info_inst
      have HAD : Hid ((if c = hf then some (⟨g, o, none⟩ : Addr) else (some (⟨g, o, none⟩ : Addr)).map (·.add (hf * 24))) = some ⟨g, o + hf * 24, none⟩) := hid (by
        rw [if_neg (by omega)]
        show some (Addr.add ⟨g, o, none⟩ (hf * 24)) = _
        unfold Addr.add
        rw [if_neg (by omega)])
      have HLN := hid hln
      rw [hln]
      clear ih hln hhf hL1 hL2 hsp hr1 hr2 hrg
      go_enter Try.func38, Try.ntmps38
      go_wp2_with (first
        | (refine wpList_slice_head rfl 102 138 (.tmp 13) (.tmp 14) rfl _ _ _ hf 24 rfl rfl (by omega) Try.underlying102 HII.out ?_))
      go_at_call 38
      refine H1.out.mono ?_
      rintro e w1 ⟨g1, o1, c1, rfl, q1, q2, q3, q4⟩
      have HQ3 := hid q3
      have HQ4 := hid q4
      clear q3 q4
      go_wp2_with (first
        | (refine wpList_slice_tail rfl 102 138 (.tmp 17) (.tmp 18) rfl _ _ _ hf 24 rfl rfl (by omega) Try.underlying102 HII.out ?_; rw [HAD.out]))
      go_at_call 38
      refine (H2.out _ HQ4.out).mono ?_
      rintro e w2 ⟨g2, o2, c2, rfl, s1, s2, s3, s4⟩
      have HS3 := hid s3
      have HS4 := hid s4
      have q5 : g1 < w2.heap.size := by have := s4.size; omega
      clear s3 s4
      go_wp2_with fail
      go_at_call 59
      refine (HM.out g1 o1 c1 g2 o2 c2 _ q1 s1 q5 s2 (range_grown HQ3.out HS4.out) HS3.out).mono ?_
      rintro e w3 ⟨v, rfl, ho, hg3⟩
      obtain ⟨va, vm, vc, rfl⟩ := own_slice ho
      have em := own_len ho
      subst em
      have hcap := own_cap ho
      obtain ⟨g3, rfl, _, _, hgl3, hcell⟩ := own_cell ho (by omega)
      have HC : Hid (w3.rangeAt g3 0 (insW wt (isort (ltI wt) l))) := hid (fun j v hv => by rw [Nat.zero_add]; exact hcell j v hv)
      have HG3 : Hid (w.grownBy w3 none) := hid (grown_trans HQ4.out (grown_trans HS4.out hg3))
      clear ho hg3 hcell
      go_wp2_with fail
      go_ret
      exact ⟨g3, 0, vc, rfl, hcap, hgl3, HC.out, HG3.out⟩
theorem pordered_none (c : Nat) (a : Option Addr) (w : World) :
    Calls Try.prog 38 #[.slice a 0 c] w fun e w' => e = .returned (.slice a 0 c) ∧ w' = w := by
  go_enter Try.func38, Try.ntmps38
  go_wp2_with fail
  go_ret
  exact ⟨rfl, rfl⟩

end Go.Proofs.Ythlhbjnkohinmaa

/- The program's actions: what an expression comes to. -/
namespace Go.Proofs.Ythlhbjnkohinmaa
open Go.RowKit

theorem info_term : (Try.prog.info? 161).map (·.size) = some 2 := by kernel_rfl
set_option maxRecDepth 20000 in
set_option maxHeartbeats 1000000 in
theorem presult_cells (D X : List Value) (r st : Int) (w : World) (hD : D.length = 8) (hX : X.length = 3) (x2 : X[2]? = some (.int .i64 st)) (hr : 0 ≤ r ∧ r ≤ 9) (hst : -1 ≤ st ∧ st ≤ 1)
    (HOF : Hid (∀ W, Calls Try.prog 96 #[.agg D.toArray, .agg (X.take 2).toArray] W fun e w' => e = .returned (.int .i64 r) ∧ W.grownBy w' none)) :
    Calls Try.prog 88 #[.agg D.toArray, .agg X.toArray] w fun e w' => e = .returned (.tuple #[.int .i64 (r + st), .bool (decide (0 ≤ r + st) && decide (r + st < 10))]) ∧ w.grownBy w' none := by
  have hb0 : ((w.alloc (.cells D.toArray 136)).alloc (.cells X.toArray 173)).heap[w.heap.size]? = some (.cells D.toArray 136 (0, 0)) := (Below.heap_alloc _ _ _ (by simp)).trans (heap_alloc_new w _)
  have hb1 : ((w.alloc (.cells D.toArray 136)).alloc (.cells X.toArray 173)).heap[w.heap.size + 1]? = some (.cells X.toArray 173 (0, 0)) := pblk_at (by simp)
  obtain ⟨M, hM⟩ : ∃ M, M = X.take 2 := ⟨_, rfl⟩
  have hMl : M.length = 2 := by rw [hM]; simp [hX]
  rw [← hM] at HOF
  have HR0 : Hid (((w.alloc (.cells D.toArray 136)).alloc (.cells X.toArray 173)).rangeAt w.heap.size 0 D) := hid (range_of_blk hb0 rfl)
  have HR1 : Hid (((w.alloc (.cells D.toArray 136)).alloc (.cells X.toArray 173)).rangeAt (w.heap.size + 1) 0 M) := hid (range_drop hb1 (fun j v hv => by
    rw [Nat.zero_add]
    have hj := (List.getElem?_eq_some_iff.1 hv).1
    rw [hMl] at hj
    rw [hM, List.getElem?_take_of_lt hj] at hv
    exact hv))
  have HC2 : Hid (((w.alloc (.cells D.toArray 136)).alloc (.cells X.toArray 173)).cell? ⟨w.heap.size + 1, 2, none⟩ = some (.int .i64 st)) := hid (cell_list hb1 x2)
  have HID : Hid ((Try.prog.info? 136).map (·.size) = some D.length) := hid (by rw [hD]; exact info_dig)
  have HIM : Hid ((Try.prog.info? 161).map (·.size) = some M.length) := hid (by rw [hMl]; exact info_term)
  have HG0 : Hid (w.grownBy ((w.alloc (.cells D.toArray 136)).alloc (.cells X.toArray 173)) none) := hid (grown_alloc (grown_alloc (grown_refl _ _) _) _)
  have hr0 := hr.1
  have hr9 := hr.2
  have hs0 := hst.1
  have hs1 := hst.2
  have hwr : IntKind.i64.wrap (r + st) = r + st := Go.IntWalk.i64_in _ (by omega)
  obtain ⟨res, hres⟩ : ∃ res : Bool, res = (decide (0 ≤ r + st) && decide (r + st < 10)) := ⟨_, rfl⟩
  rw [← hres]
  have HRES := hid hres
  clear hb0 hb1 x2 hM hr hst hX hres
  go_enter Try.func88, Try.ntmps88
  go_wp2_with fail
  generalize ((w.alloc (.cells D.toArray 136)).alloc (.cells X.toArray 173)) = WA at HR0 HR1 HC2 HG0 ⊢
  refine wp_region_held_drew (S := fun W => W.rangeAt w.heap.size 0 D ∧ W.rangeAt (w.heap.size + 1) 0 M ∧ W.cell? ⟨w.heap.size + 1, 2, none⟩ = some (.int .i64 st)) (by kernel_rfl) ⟨HR0.out, HR1.out, HC2.out⟩ (fun hHeld => ?_)
  refine wpAnyH_take (i := 0) (v := .agg D.toArray) rfl (by kernel_rfl) (by kernel_rfl) (by kernel_rfl) (fun _ _ _ h => h) (yieldsIf_load_mid (by rfl) 136 _ rfl (w.heap.size) (0) rfl D _ (fun W hSw => hSw.1) Try.underlying136 rfl HID.out) hHeld ?_
  refine wpAnyH_take (i := 1) (v := .pointer (some ⟨w.heap.size + 1, 0, none⟩)) rfl (by kernel_rfl) (by kernel_rfl) (by kernel_rfl) (fun _ _ _ h => h) (Or.inl ⟨by rfl, ?_⟩) hHeld ?_
  · intro W hSw
    have s1 := hSw.2.2
    go_simp
  refine wpAnyH_take (i := 2) (v := .agg M.toArray) rfl (by kernel_rfl) (by kernel_rfl) (by kernel_rfl) (fun _ _ _ h => h) (yieldsIf_load_mid (by rfl) 161 _ rfl (w.heap.size + 1) (0) rfl M _ (fun W hSw => hSw.2.1) Try.underlying161 rfl HIM.out) hHeld ?_
  refine wpAnyH_take (i := 4) (v := .pointer (some ⟨w.heap.size + 1, 2, none⟩)) rfl (by kernel_rfl) (by kernel_rfl) (by kernel_rfl) (fun _ _ _ h => h) (Or.inl ⟨by rfl, ?_⟩) hHeld ?_
  · intro W hSw
    have s1 := hSw.2.2
    go_simp
  refine wpAnyH_take (i := 5) (v := .int .i64 st) rfl (by kernel_rfl) (by kernel_rfl) (by kernel_rfl) (fun _ _ _ h => h) (Or.inl ⟨by rfl, ?_⟩) hHeld ?_
  · intro W hSw
    have s1 := hSw.2.2
    go_simp
  refine wpAnyH_ready (rs := [3]) (by kernel_rfl) (by simp) ?_
  refine AllReadyH.cons (o := _) rfl (fun K hK => ?_) AllReadyH.nil
  go_simp
  go_at_call 96
  refine (HOF.out _).mono ?_
  rintro e w1 ⟨rfl, hg1⟩
  have HG1 : Hid (WA.grownBy w1 none) := hid (grown_undrew (n := 1) hg1)
  clear hg1 HOF
  go_wp2_with fail
  refine hK.out _ _ ⟨range_grown HR0.out HG1.out, range_grown HR1.out HG1.out, grown_cell HG1.out HC2.out⟩ (fun hHeld2 => ?_)
  clear hK K hHeld
  refine wpAnyH_take (i := 6) (v := .int .i64 (r + st)) rfl (by kernel_rfl) (by kernel_rfl) (by kernel_rfl) (fun _ _ _ h => h) (Or.inl ⟨by rfl, ?_⟩) hHeld2 ?_
  · intro W hSw
    have s1 := hSw.2.2
    go_simp
  refine wpAnyH_take (i := 7) (v := .int .i64 (r + st)) rfl (by kernel_rfl) (by kernel_rfl) (by kernel_rfl) (fun _ _ _ h => h) (Or.inl ⟨by rfl, ?_⟩) hHeld2 ?_
  · intro W hSw
    have s1 := hSw.2.2
    go_simp
  refine wpAnyH_done (by kernel_rfl) ?_ _
  clear hHeld2
  by_cases h0 : 0 ≤ r + st
  · go_wp2_with fail
    go_ret2
    refine ⟨?_, grown_trans HG0.out HG1.out⟩
    rw [HRES.out]
    simp [h0]
  · have h0' : decide (0 ≤ r + st) = false := by simpa using h0
    go_wp2_with fail
    go_ret2
    refine ⟨?_, grown_trans HG0.out HG1.out⟩
    rw [HRES.out, h0']
    rfl

set_option maxRecDepth 20000 in
set_option maxHeartbeats 1000000 in
theorem peffect_cells (D A : List Value) (k c d1 d2 : Int) (ok1 ok2 : Bool) (w : World) (hD : D.length = 8) (hA : A.length = 8) (x0 : A[0]? = some (.int .i64 k)) (x1 : A[1]? = some (.int .i64 c)) (hk : k = 1 ∨ k = 2) (hc : 0 ≤ c ∧ c ≤ 5) (hd1 : -10 ≤ d1 ∧ d1 ≤ 10)
    (HR1 : Hid (∀ W, Calls Try.prog 88 #[.agg D.toArray, .agg ((A.drop 2).take 3).toArray] W fun e w' => e = .returned (.tuple #[.int .i64 d1, .bool ok1]) ∧ W.grownBy w' none))
    (HR2 : Hid (k = 1 → ∀ W, Calls Try.prog 88 #[.agg D.toArray, .agg (A.drop 5).toArray] W fun e w' => e = .returned (.tuple #[.int .i64 d2, .bool ok2]) ∧ W.grownBy w' none)) :
    Calls Try.prog 79 #[.agg D.toArray, .agg A.toArray] w fun e w' => e = .returned (if ok1 then (if k = 1 then .tuple #[.agg #[.int .i64 (c * 10 + d1), .bool true, .int .i64 d2], .bool ok2] else .tuple #[.agg #[.int .i64 (c * 10 + d1), .bool false, .int .i64 0], .bool true]) else .tuple #[.agg #[.int .i64 0, .bool false, .int .i64 0], .bool false]) ∧ w.grownBy w' none := by
  have hb0 : (((w.alloc (.cells D.toArray 136)).alloc (.cells A.toArray 175)).alloc (.cells #[.int .i64 0, .bool false, .int .i64 0] 177)).heap[w.heap.size]? = some (.cells D.toArray 136 (0, 0)) := by
    rw [Below.heap_alloc _ _ _ (by simp; omega), Below.heap_alloc _ _ _ (by simp)]
    exact heap_alloc_new w _
  have hb1 : (((w.alloc (.cells D.toArray 136)).alloc (.cells A.toArray 175)).alloc (.cells #[.int .i64 0, .bool false, .int .i64 0] 177)).heap[w.heap.size + 1]? = some (.cells A.toArray 175 (0, 0)) := by
    rw [Below.heap_alloc _ _ _ (by simp)]
    exact pblk_at (by simp)
  have hb2 : (((w.alloc (.cells D.toArray 136)).alloc (.cells A.toArray 175)).alloc (.cells #[.int .i64 0, .bool false, .int .i64 0] 177)).heap[w.heap.size + 1 + 1]? = some (.cells #[.int .i64 0, .bool false, .int .i64 0] 177 (0, 0)) := pblk_at (by simp)
  obtain ⟨X, hX⟩ : ∃ X, X = (A.drop 2).take 3 := ⟨_, rfl⟩
  obtain ⟨Y, hY⟩ : ∃ Y, Y = A.drop 5 := ⟨_, rfl⟩
  have hXl : X.length = 3 := by rw [hX]; simp [hA]
  have hYl : Y.length = 3 := by rw [hY]; simp [hA]
  rw [← hX] at HR1
  rw [← hY] at HR2
  have hXr : ∀ j v, X[j]? = some v → A[2 + j]? = some v := fun j v hv => by
    have hj := (List.getElem?_eq_some_iff.1 hv).1
    rw [hXl] at hj
    rw [hX, List.getElem?_take_of_lt hj, List.getElem?_drop] at hv
    exact hv
  have hYr : ∀ j v, Y[j]? = some v → A[5 + j]? = some v := fun j v hv => by
    rw [hY, List.getElem?_drop] at hv
    exact hv
  have HD0 : Hid ((((w.alloc (.cells D.toArray 136)).alloc (.cells A.toArray 175)).alloc (.cells #[.int .i64 0, .bool false, .int .i64 0] 177)).rangeAt w.heap.size 0 D) := hid (range_of_blk hb0 rfl)
  have HX0 : Hid ((((w.alloc (.cells D.toArray 136)).alloc (.cells A.toArray 175)).alloc (.cells #[.int .i64 0, .bool false, .int .i64 0] 177)).rangeAt (w.heap.size + 1) 2 X) := hid (range_drop hb1 hXr)
  have HID : Hid ((Try.prog.info? 136).map (·.size) = some D.length) := hid (by rw [hD]; exact info_dig)
  have HIX : Hid ((Try.prog.info? 173).map (·.size) = some X.length) := hid (by rw [hXl]; kernel_rfl)
  have HIY : Hid ((Try.prog.info? 173).map (·.size) = some Y.length) := hid (by rw [hYl]; kernel_rfl)
  have HG0 : Hid (w.grownBy (((w.alloc (.cells D.toArray 136)).alloc (.cells A.toArray 175)).alloc (.cells #[.int .i64 0, .bool false, .int .i64 0] 177)) none) := hid (grown_alloc (grown_alloc (grown_alloc (grown_refl _ _) _) _) _)
  have HB0 := hid hb0
  have HB1 := hid hb1
  have HB2 := hid hb2
  have HX0' := hid x0
  have HX1' := hid x1
  have HYR := hid hYr
  have hc0 := hc.1
  have hc5 := hc.2
  have hd0 := hd1.1
  have hd9 := hd1.2
  have hm : IntKind.i64.wrap (c * 10) = c * 10 := Go.IntWalk.i64_in _ (by omega)
  have hs : IntKind.i64.wrap (c * 10 + d1) = c * 10 + d1 := Go.IntWalk.i64_in _ (by omega)
  clear hb0 hb1 hb2 hX hY hXr hYr x0 x1 hc hd1 hA
  generalize hRES : (if ok1 then (if k = 1 then Value.tuple #[.agg #[.int .i64 (c * 10 + d1), .bool true, .int .i64 d2], .bool ok2] else .tuple #[.agg #[.int .i64 (c * 10 + d1), .bool false, .int .i64 0], .bool true]) else .tuple #[.agg #[.int .i64 0, .bool false, .int .i64 0], .bool false]) = res
  have HRES := hid hRES
  clear hRES
  go_enter Try.func79, Try.ntmps79
  go_wp2_with (first
    | (refine wpList_load_mid rfl 136 (.tmp 2) rfl w.heap.size 0 rfl D _ HD0.out Try.underlying136 rfl HID.out ?_)
    | (refine wpList_load_mid rfl 173 (.tmp 12) rfl (w.heap.size + 1) 2 rfl X _ HX0.out Try.underlying173 rfl HIX.out ?_))
  go_at_call 88
  refine (HR1.out _).mono ?_
  rintro e w1 ⟨rfl, hg1⟩
  have hB0 := (hg1.block _ (lt_of_block HB0.out) (by simp)).trans HB0.out
  have hB1 := (hg1.block _ (lt_of_block HB1.out) (by simp)).trans HB1.out
  have hB2 := (hg1.block _ (lt_of_block HB2.out) (by simp)).trans HB2.out
  have HG1 : Hid (w.grownBy w1 none) := hid (grown_trans HG0.out hg1)
  have HBB2 := hid hB2
  have l1 := lt_of_block hB1
  have l2 := lt_of_block hB2
  have hsw : w.heap.size ≤ w.heap.size + 1 + 1 := by omega
  clear hg1 HB0 HB1 HB2 HG0 HD0 HX0 HR1
  have n0 : w.heap.size + 1 + 1 ≠ w1.heap.size := by omega
  have n1 : w.heap.size + 1 ≠ w1.heap.size := by omega
  have n2 : w.heap.size + 1 ≠ w.heap.size + 1 + 1 := by omega
  have z0 : ∀ i, w1.frozen? ⟨w.heap.size + 1 + 1, i, none⟩ = false := frozen_blk hB2
  have q0 : w1.cell? ⟨w.heap.size + 1 + 1, 0, none⟩ = some (.int .i64 0) := by rw [cell_of_row _ _ _ _ _ _ hB2]; rfl
  have q1 : w1.cell? ⟨w.heap.size + 1 + 1, 1, none⟩ = some (.bool false) := by rw [cell_of_row _ _ _ _ _ _ hB2]; rfl
  have q2 : w1.cell? ⟨w.heap.size + 1 + 1, 2, none⟩ = some (.int .i64 0) := by rw [cell_of_row _ _ _ _ _ _ hB2]; rfl
  have p0 : w1.cell? ⟨w.heap.size + 1, 0, none⟩ = some (.int .i64 k) := cell_list hB1 HX0'.out
  have p1 : w1.cell? ⟨w.heap.size + 1, 1, none⟩ = some (.int .i64 c) := cell_list hB1 HX1'.out
  have HS : Hid (∀ W i v, w.grownBy W none → w.grownBy (W.setCell ⟨w.heap.size + 1 + 1, i, none⟩ v) none) := hid (fun W i v h => grown_set h (.inr (by show w.heap.size ≤ w.heap.size + 1 + 1; omega)) _)
  cases ok1 with
  | false =>
    go_wp2_with fail
    refine bodyPost_ret (res_ct Try.results79 rfl (blk_setCell (blk_setCell (blk_setCell HBB2.out _ _) _ _) _ _) Try.underlying177 rfl (by kernel_rfl) rfl) rfl ⟨?_, HS.out _ _ _ (HS.out _ _ _ (HS.out _ _ _ HG1.out))⟩
    rw [← HRES.out]
    rfl
  | true =>
    rcases hk with rfl | rfl
    · have HR2' := hid (HR2.out rfl)
      have HYY : Hid (∀ W, w1.grownBy W none → W.rangeAt (w.heap.size + 1) 5 Y ∧ W.rangeAt w.heap.size 0 D) := hid (fun W hW => ⟨range_drop ((hW.block _ l1 (by simp)).trans hB1) HYR.out, range_of_blk ((hW.block _ (lt_of_block hB0) (by simp)).trans hB0) rfl⟩)
      have HG2 : Hid (w1.grownBy (w1.alloc (.cells #[.int .i64 (c * 10 + d1), .bool false, .int .i64 0] 177)) none) := hid (grown_alloc (grown_refl _ _) _)
      have HY1 := hid ((HYY.out _ HG2.out).1)
      have HD1 := hid ((HYY.out _ HG2.out).2)
      have hbe : (w1.alloc (.cells #[.int .i64 (c * 10 + d1), .bool false, .int .i64 0] 177)).heap[w1.heap.size]? = some (.cells #[.int .i64 (c * 10 + d1), .bool false, .int .i64 0] 177 (0, 0)) := heap_alloc_new w1 _
      have HBE := hid hbe
      clear hbe HR2
      go_wp2_with (first
        | (refine wpList_load_mid rfl 136 (.tmp 2) rfl w.heap.size 0 rfl D _ HD1.out Try.underlying136 rfl HID.out ?_)
        | (refine wpList_load_mid rfl 173 (.tmp 32) rfl (w.heap.size + 1) 5 rfl Y _ HY1.out Try.underlying173 rfl HIY.out ?_))
      go_at_call 88
      refine (HR2'.out _).mono ?_
      rintro e w2 ⟨rfl, hg2⟩
      have hE := (hg2.block _ (lt_of_block HBE.out) (by simp)).trans HBE.out
      have h22 := (hg2.block _ (by simp; omega) (by simp)).trans ((Below.heap_alloc w1 _ _ l2).trans HBB2.out)
      have HB22 := hid h22
      have HGG : Hid (w.grownBy w2 none) := hid (grown_trans HG1.out (grown_trans HG2.out hg2))
      have e0 : w2.cell? ⟨w1.heap.size, 0, none⟩ = some (.int .i64 (c * 10 + d1)) := by rw [cell_of_row _ _ _ _ _ _ hE]; rfl
      have e1 : w2.cell? ⟨w1.heap.size, 1, none⟩ = some (.bool false) := by rw [cell_of_row _ _ _ _ _ _ hE]; rfl
      have e2 : w2.cell? ⟨w1.heap.size, 2, none⟩ = some (.int .i64 0) := by rw [cell_of_row _ _ _ _ _ _ hE]; rfl
      have ze : ∀ i, w2.frozen? ⟨w1.heap.size, i, none⟩ = false := frozen_blk hE
      have z2 : ∀ i, w2.frozen? ⟨w.heap.size + 1 + 1, i, none⟩ = false := frozen_blk h22
      have r0 : w2.cell? ⟨w.heap.size + 1 + 1, 0, none⟩ = some (.int .i64 0) := by rw [cell_of_row _ _ _ _ _ _ h22]; rfl
      have r1 : w2.cell? ⟨w.heap.size + 1 + 1, 1, none⟩ = some (.bool false) := by rw [cell_of_row _ _ _ _ _ _ h22]; rfl
      have r2 : w2.cell? ⟨w.heap.size + 1 + 1, 2, none⟩ = some (.int .i64 0) := by rw [cell_of_row _ _ _ _ _ _ h22]; rfl
      have n0' := n0.symm
      have HS1 : Hid (∀ W i v, w.grownBy W none → w.grownBy (W.setCell ⟨w1.heap.size, i, none⟩ v) none) := hid (fun W i v h => grown_set h (.inr (by show w.heap.size ≤ w1.heap.size; exact HG1.out.size)) _)
      clear hg2 hE h22 HR2' HY1 HD1 HYY hB0 hB1 hB2
      go_wp2_with fail
      refine bodyPost_ret (res_ct Try.results79 rfl (blk_setCell (blk_setCell (blk_setCell ((hs_ne n0).trans ((hs_ne n0).trans HB22.out)) _ _) _ _) _ _) Try.underlying177 rfl (by kernel_rfl) rfl) rfl ⟨?_, HS.out _ _ _ (HS.out _ _ _ (HS.out _ _ _ (HS1.out _ _ _ (HS1.out _ _ _ HGG.out))))⟩
      rw [← HRES.out]
      rfl
    · have hne : ¬ ((2 : Int) = 1) := by omega
      go_wp2_with fail
      refine bodyPost_ret (res_ct Try.results79 rfl ((Below.heap_alloc _ _ _ (by simpa [World.setCell] using l2)).trans (blk_setCell (blk_setCell (blk_setCell HBB2.out _ _) _ _) _ _)) Try.underlying177 rfl (by kernel_rfl) rfl) rfl ⟨?_, grown_alloc (HS.out _ _ _ (HS.out _ _ _ (HS.out _ _ _ HG1.out))) _⟩
      rw [← HRES.out]
      rfl

end Go.Proofs.Ythlhbjnkohinmaa

/- The program's instantiations: written. -/
namespace Go.Proofs.Ythlhbjnkohinmaa
open Go.RowKit

theorem strCells_app (a b : ByteArray) : Lib.strCells (a ++ b) = Lib.strCells a ++ Lib.strCells b := by
  unfold Lib.strCells
  rw [ByteArray.data_append, Array.toList_append, List.map_append]
theorem strCells_num {n : Int} (h0 : 0 ≤ n) (h1 : n ≤ 255) : Lib.strCells (strOfNums [n]) = [.int .u8 n] := by
  have e : (UInt8.ofNat n.toNat).toNat = n.toNat := by
    rw [UInt8.toNat_ofNat']
    omega
  simp [Lib.strCells, strOfNums, e]
  omega
theorem strCells_semi : Lib.strCells ⟨#[59]⟩ = [.int .u8 59] := rfl
theorem Try.infoB : (Try.prog.info? 5).map (fun i => (i.zero, i.size, i.bytes)) = some (some (.int .u8 0), 1, 1) := by kernel_rfl
theorem strCells_len (s : ByteArray) : (Lib.strCells s).length = s.size := Lib.strCells_length s
/-- A row of bytes as a string. -/
theorem own_string {w : World} {B : Nat} {v : Value} {s : ByteArray} (h : w.ownsRow B 5 1 v s.size (Lib.strCells s)) : (convert 99 9 v).run Try.prog w = .ok (.string s) w := by
  obtain ⟨a, m, c, rfl⟩ := own_slice h
  have em := own_len h
  subst em
  by_cases hz : s.size = 0
  · have hs : s = ByteArray.empty := by
      have : s.data = #[] := Array.eq_empty_of_size_eq_zero hz
      cases s
      simp only at this
      rw [this]
      rfl
    rw [run_convert_bytes_string w _ _ 5 a s.size c Try.underlying99 Try.underlying5 Try.underlying9, hz]
    cases a with
    | none => rw [hs]; rfl
    | some ad =>
      rw [hs]
      have := run_bytesToString (P := Try.prog) w ad 0 c [] (by simp [loadCells, loadCellsFrom])
      simpa using this
  · obtain ⟨g, rfl, _, _, _, hcell⟩ := own_cell h (by omega)
    have := run_convert_bytes_back (P := Try.prog) w 99 9 5 ⟨g, 0, none⟩ c s.data.toList Try.underlying99 Try.underlying5 Try.underlying9 (fun j hj => by
      have hadd : (⟨g, 0, none⟩ : Addr).add j = ⟨g, j, none⟩ := by unfold Addr.add; split <;> simp_all
      rw [hadd]
      refine hcell j _ ?_
      unfold Lib.strCells
      rw [List.getElem?_map, List.getElem?_eq_getElem hj]
      rfl)
    have e1 : s.data.toList.length = s.size := by rw [Array.length_toList]; rfl
    have e2 : (⟨s.data.toList.toArray⟩ : ByteArray) = s := by cases s; simp
    rw [e1, e2] at this
    exact this

end Go.Proofs.Ythlhbjnkohinmaa
