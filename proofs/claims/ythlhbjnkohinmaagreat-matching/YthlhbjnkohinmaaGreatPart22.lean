import Derived.Test.YthlhbjnkohinmaaGreatPart21
import Derived.Test.YthlhbjnkohinmaaGreatPart15
import Derived.Lib.AppendStr
import Derived.Laws.IdiomStrings
/- The program's instantiations: put in order. -/
namespace Go.Proofs.YthlhbjnkohinmaaGreat
open Go.RowKit

theorem slice_head_run {P : Program} (w : World) (t e : TypeId) (ad : Option Addr) (n c i sz : Nat) (hu : P.underlying t = some (.slice e)) (hi : (P.info? e).map (·.size) = some sz) (h1 : i ≤ c) :
    (Instr.sliceAt t (.slice ad n c) none (some (.int .i64 i)) none).run P w = .ok (.slice ad i c) w := by
  cases hq : P.info? e with
  | none => simp [hq] at hi
  | some d =>
    have g2 : ad.map (fun x => x.add 0) = ad := by cases ad <;> simp [Addr.add]
    simp [Instr.sliceAt, Instr.slice, Instr.sliceBounds, Instr.sliceBound, underlying, sizeOf, typeInfo, hu, hq, asIntOf, g2]
    intro h
    omega
theorem wpList_slice_head {P : Program} {ops : Array Oper} {rest : List Oper} {op : Oper} {a : Act} {w : World} {Q : Exit → Act → World → Prop} (hgd : op.guard = none) (t e : TypeId) (x y : Operand) (ho : op.op = .slice t x none (some y) none)
    (ad : Option Addr) (n c i sz : Nat) (hx : a.eval x = .slice ad n c) (hy : a.eval y = .int .i64 i) (h1 : i ≤ c) (hu : P.underlying t = some (.slice e)) (hi : (P.info? e).map (·.size) = some sz)
    (h : wpList P ops Q rest (a.put op.dst (.slice ad i c)) w) : wpList P ops Q (op :: rest) a w :=
  wpList_plain hgd fun _ hK => by
    unfold Oper.wp execOp
    have := slice_head_run (P := P) w t e ad n c i sz hu hi h1
    simp only [ho, hx, hy, Option.map_some, Option.map_none, Sem.run_bind, Sem.run_pure, this, Result.andThen_ok]
    exact hK _ _ h

theorem ltI_weak (wt : Nat → Int) : Weak (ltI wt) := by
  refine ⟨fun {a b c} h1 h2 => ?_, fun {a b c} h1 h2 => ?_, fun a => ?_⟩
  · unfold ltI ahB at *
    split at h1 <;> split at h2 <;> split <;> simp only [decide_eq_true_eq] at * <;> omega
  · unfold ltI ahB at *
    split at h1 <;> split at h2 <;> split <;> simp only [decide_eq_false_iff_not] at * <;> omega
  · unfold ltI ahB
    simp
set_option maxRecDepth 20000 in
set_option maxHeartbeats 1000000 in
theorem pordered_any (wt : Nat → Int) : ∀ (n : Nat) (l : List In) (g o c : Nat) (w : World), l.length = n → n ≤ 2160000 → 0 < n → n ≤ c → g < w.heap.size → w.rangeAt g o (insW wt l) →
    Calls Tryz.prog 61 #[.slice (some ⟨g, o, none⟩) l.length c] w fun e w' => ∃ g' o' c', e = .returned (.slice (some ⟨g', o', none⟩) l.length c') ∧ l.length ≤ c' ∧ g' < w'.heap.size ∧ w'.rangeAt g' o' (insW wt (isort (ltI wt) l)) ∧ w.grownBy w' none := by
  intro n
  induction n using Nat.strongRecOn with
  | _ n ih =>
    intro l g o c w hln hn hn0 hc hgl hrg
    by_cases h2 : n < 2
    · have hl1 : l.length = 1 := by omega
      obtain ⟨x, rfl⟩ := List.length_eq_one_iff.mp hl1
      have HR := hid hrg
      have HE : Hid (isort (ltI wt) [x] = [x]) := hid rfl
      have hc1 : 1 ≤ c := by omega
      clear ih hrg hl1 hln
      simp only [List.length_cons, List.length_nil, Nat.zero_add]
      go_enter Tryz.func61, Tryz.ntmps61
      go_wp2_with fail
      go_ret
      exact ⟨g, o, c, rfl, hc1, hgl, by rw [HE.out]; exact HR.out, grown_refl _ _⟩
    · obtain ⟨hf, hhf⟩ : ∃ hf, hf = n / 2 := ⟨_, rfl⟩
      have hf1 : 0 < hf := by omega
      have hf2 : hf < n := by omega
      have hL1 : (l.take hf).length = hf := by rw [List.length_take]; omega
      have hL2 : (l.drop hf).length = n - hf := by rw [List.length_drop]; omega
      have hsp : insW wt l = insW wt (l.take hf) ++ insW wt (l.drop hf) := by rw [← insW_app, List.take_append_drop]
      have hr1 : w.rangeAt g o (insW wt (l.take hf)) := fun j v hv => hrg j v (by
        rw [hsp, List.getElem?_append_left (List.getElem?_eq_some_iff.1 hv).1]
        exact hv)
      have hr2 : w.rangeAt g (o + hf * 24) (insW wt (l.drop hf)) := fun j v hv => by
        have := hrg (hf * 24 + j) v (by
          rw [hsp, List.getElem?_append_right (by rw [insW_len, hL1]; omega), insW_len, hL1, show hf * 24 + j - hf * 24 = j by omega]
          exact hv)
        rw [← Nat.add_assoc] at this
        exact this
      have H1 : Hid (Calls Tryz.prog 61 #[.slice (some ⟨g, o, none⟩) hf c] w fun e w' => ∃ g' o' c', e = .returned (.slice (some ⟨g', o', none⟩) hf c') ∧ hf ≤ c' ∧ g' < w'.heap.size ∧ w'.rangeAt g' o' (insW wt (isort (ltI wt) (l.take hf))) ∧ w.grownBy w' none) := hid (by
        have := ih hf hf2 (l.take hf) g o c w hL1 (by omega) hf1 (by omega) hgl hr1
        rw [hL1] at this
        exact this)
      have H2 : Hid (∀ W, w.grownBy W none → Calls Tryz.prog 61 #[.slice (some ⟨g, o + hf * 24, none⟩) (n - hf) (c - hf)] W fun e w' => ∃ g' o' c', e = .returned (.slice (some ⟨g', o', none⟩) (n - hf) c') ∧ n - hf ≤ c' ∧ g' < w'.heap.size ∧ w'.rangeAt g' o' (insW wt (isort (ltI wt) (l.drop hf))) ∧ W.grownBy w' none) := hid (fun W hW => by
        have := ih (n - hf) (by omega) (l.drop hf) g (o + hf * 24) (c - hf) W hL2 (by omega) (by omega) (by omega) (Nat.lt_of_lt_of_le hgl hW.size) (range_grown hr2 hW)
        rw [hL2] at this
        exact this)
      have HM : Hid (∀ (g1 o1 c1 g2 o2 c2 : Nat) (W : World), hf ≤ c1 → n - hf ≤ c2 → g1 < W.heap.size → g2 < W.heap.size → W.rangeAt g1 o1 (insW wt (isort (ltI wt) (l.take hf))) → W.rangeAt g2 o2 (insW wt (isort (ltI wt) (l.drop hf))) → Calls Tryz.prog 90 #[.slice (some ⟨g1, o1, none⟩) hf c1, .slice (some ⟨g2, o2, none⟩) (n - hf) c2] W fun e w' => ∃ v, e = .returned v ∧ w'.ownsRow W.heap.size 176 24 v n (insW wt (isort (ltI wt) l)) ∧ W.grownBy w' none) := hid (fun g1 o1 c1 g2 o2 c2 W a1 a2 a3 a4 a5 a6 => by
        have := pmerged_any wt (isort (ltI wt) (l.take hf)) (isort (ltI wt) (l.drop hf)) g1 o1 c1 g2 o2 c2 W (by rw [isort_len]; omega) (by rw [isort_len]; omega) (by rw [isort_len]; omega) (by rw [isort_len]; omega) a3 a4 a5 a6
        rw [mrg_sorts (ltI_weak wt), List.take_append_drop, isort_len, isort_len, isort_len, hL1, hL2, hln] at this
        exact this)
      have hq : Int.tdiv (n : Int) 2 = (hf : Int) := by rw [Int.tdiv_eq_ediv_of_nonneg (by omega), hhf]; omega
      have HII : Hid ((Tryz.prog.info? 176).map (·.size) = some 24) := hid info_inst
      have HAD : Hid ((if c = hf then some (⟨g, o, none⟩ : Addr) else (some (⟨g, o, none⟩ : Addr)).map (·.add (hf * 24))) = some ⟨g, o + hf * 24, none⟩) := hid (by
        rw [if_neg (by omega)]
        show some (Addr.add ⟨g, o, none⟩ (hf * 24)) = _
        unfold Addr.add
        rw [if_neg (by omega)])
      have HLN := hid hln
      rw [hln]
      clear ih hln hhf hL1 hL2 hsp hr1 hr2 hrg
      go_enter Tryz.func61, Tryz.ntmps61
      go_wp2_with (first
        | (refine wpList_slice_head rfl 125 176 (.tmp 13) (.tmp 14) rfl _ _ _ hf 24 rfl rfl (by omega) Tryz.underlying125 HII.out ?_))
      go_at_call 61
      refine H1.out.mono ?_
      rintro e w1 ⟨g1, o1, c1, rfl, q1, q2, q3, q4⟩
      have HQ3 := hid q3
      have HQ4 := hid q4
      clear q3 q4
      go_wp2_with (first
        | (refine wpList_slice_tail rfl 125 176 (.tmp 17) (.tmp 18) rfl _ _ _ hf 24 rfl rfl (by omega) Tryz.underlying125 HII.out ?_; rw [HAD.out]))
      go_at_call 61
      refine (H2.out _ HQ4.out).mono ?_
      rintro e w2 ⟨g2, o2, c2, rfl, s1, s2, s3, s4⟩
      have HS3 := hid s3
      have HS4 := hid s4
      have q5 : g1 < w2.heap.size := by have := s4.size; omega
      clear s3 s4
      go_wp2_with fail
      go_at_call 90
      refine (HM.out g1 o1 c1 g2 o2 c2 _ q1 s1 q5 s2 (range_grown HQ3.out HS4.out) HS3.out).mono ?_
      rintro e w3 ⟨v, rfl, ho, hg3⟩
      obtain ⟨va, vm, vc, rfl⟩ := own_slice ho
      have em := own_len ho
      subst em
      have hcap := own_cap ho
      obtain ⟨g3, rfl, _, _, hgl3, hcell⟩ := own_cell ho (by omega)
      have HC : Hid (w3.rangeAt g3 0 (insW wt (isort (ltI wt) l))) := hid (fun j v hv => by rw [Nat.zero_add]; exact hcell j v hv)
      have HG3 : Hid (w.grownBy w3 none) := hid (grown_trans HQ4.out (grown_trans HS4.out hg3))
      clear ho hg3 hcell
      go_wp2_with fail
      go_ret
      exact ⟨g3, 0, vc, rfl, hcap, hgl3, HC.out, HG3.out⟩
theorem pordered_none (c : Nat) (a : Option Addr) (w : World) :
    Calls Tryz.prog 61 #[.slice a 0 c] w fun e w' => e = .returned (.slice a 0 c) ∧ w' = w := by
  go_enter Tryz.func61, Tryz.ntmps61
  go_wp2_with fail
  go_ret
  exact ⟨rfl, rfl⟩

end Go.Proofs.YthlhbjnkohinmaaGreat

/- The program's instantiations: written. -/
namespace Go.Proofs.YthlhbjnkohinmaaGreat
open Go.RowKit

theorem strCells_app (a b : ByteArray) : Lib.strCells (a ++ b) = Lib.strCells a ++ Lib.strCells b := by
  unfold Lib.strCells
  rw [ByteArray.data_append, Array.toList_append, List.map_append]
theorem strCells_num {n : Int} (h0 : 0 ≤ n) (h1 : n ≤ 255) : Lib.strCells (strOfNums [n]) = [.int .u8 n] := by
  have e : (UInt8.ofNat n.toNat).toNat = n.toNat := by
    rw [UInt8.toNat_ofNat']
    omega
  simp [Lib.strCells, strOfNums, e]
  omega
theorem strCells_semi : Lib.strCells ⟨#[59]⟩ = [.int .u8 59] := rfl
theorem Tryz.infoB : (Tryz.prog.info? 5).map (fun i => (i.zero, i.size, i.bytes)) = some (some (.int .u8 0), 1, 1) := by kernel_rfl
theorem strCells_len (s : ByteArray) : (Lib.strCells s).length = s.size := Lib.strCells_length s
/-- A row of bytes as a string. -/
theorem own_string {w : World} {B : Nat} {v : Value} {s : ByteArray} (h : w.ownsRow B 5 1 v s.size (Lib.strCells s)) : (convert 160 9 v).run Tryz.prog w = .ok (.string s) w := by
  obtain ⟨a, m, c, rfl⟩ := own_slice h
  have em := own_len h
  subst em
  by_cases hz : s.size = 0
  · have hs : s = ByteArray.empty := by
      have : s.data = #[] := Array.eq_empty_of_size_eq_zero hz
      cases s
      simp only at this
      rw [this]
      rfl
    rw [run_convert_bytes_string w _ _ 5 a s.size c Tryz.underlying160 Tryz.underlying5 Tryz.underlying9, hz]
    cases a with
    | none => rw [hs]; rfl
    | some ad =>
      rw [hs]
      have := run_bytesToString (P := Tryz.prog) w ad 0 c [] (by simp [loadCells, loadCellsFrom])
      simpa using this
  · obtain ⟨g, rfl, _, _, _, hcell⟩ := own_cell h (by omega)
    have := run_convert_bytes_back (P := Tryz.prog) w 160 9 5 ⟨g, 0, none⟩ c s.data.toList Tryz.underlying160 Tryz.underlying5 Tryz.underlying9 (fun j hj => by
      have hadd : (⟨g, 0, none⟩ : Addr).add j = ⟨g, j, none⟩ := by unfold Addr.add; split <;> simp_all
      rw [hadd]
      refine hcell j _ ?_
      unfold Lib.strCells
      rw [List.getElem?_map, List.getElem?_eq_getElem hj]
      rfl)
    have e1 : s.data.toList.length = s.size := by rw [Array.length_toList]; rfl
    have e2 : (⟨s.data.toList.toArray⟩ : ByteArray) = s := by cases s; simp
    rw [e1, e2] at this
    exact this

end Go.Proofs.YthlhbjnkohinmaaGreat

/- The program's instantiations: written, the walk. -/
namespace Go.Proofs.YthlhbjnkohinmaaGreat
open Go.RowKit

/-- The text behind the first k, the next one's rule, and its first j facts. -/
def txJ (l : List In) (k j : Nat) : ByteArray := toldT (l.take k) ++ strOfNums [48 + (((l.getD k (In.start 0)).rule : Nat) : Int)] ++ factsT ((l.getD k (In.start 0)).facts.take j)
theorem txJ_zero (l : List In) (k : Nat) (hk : k < l.length) : txJ l k 0 = toldT (l.take k) ++ strOfNums [48 + (l[k].rule : Int)] := by
  have e : l.getD k (In.start 0) = l[k] := by simp [List.getD, List.getElem?_eq_getElem hk]
  unfold txJ
  rw [e]
  simp [factsT, joined]
theorem txJ_succ (l : List In) (k : Nat) (hk : k < l.length) (j : Nat) (hj : j < l[k].facts.length) : txJ l k (j + 1) = txJ l k j ++ factP l[k].facts[j].1 l[k].facts[j].2.1 := by
  have e : l.getD k (In.start 0) = l[k] := by simp [List.getD, List.getElem?_eq_getElem hk]
  unfold txJ
  rw [e, List.take_succ_eq_append_getElem hj]
  unfold factsT
  rw [List.map_append]
  show _ ++ joined (_ ++ [factP l[k].facts[j].1 l[k].facts[j].2.1]) = _
  rw [joined_snoc, ByteArray.append_assoc, ByteArray.append_assoc, ByteArray.append_assoc]
theorem txJ_all (l : List In) (k : Nat) (hk : k < l.length) : txJ l k l[k].facts.length ++ ⟨#[59]⟩ = toldT (l.take (k + 1)) := by
  have e : l.getD k (In.start 0) = l[k] := by simp [List.getD, List.getElem?_eq_getElem hk]
  rw [toldT_take l k hk]
  unfold txJ writT
  rw [e, List.take_length]
  simp only [ByteArray.append_assoc]
theorem txJ_size (l : List In) (k : Nat) (hk : k < l.length) (h : ∀ i ∈ l, i.facts.length ≤ 3) (hl : l.length ≤ 2160000) (j : Nat) : (txJ l k j).size ≤ 700000000 := by
  have e : l.getD k (In.start 0) = l[k] := by simp [List.getD, List.getElem?_eq_getElem hk]
  have h1 := toldT_size (l.take k) (fun i hi => by have := h i (List.mem_of_mem_take hi); omega)
  have h2 := List.length_take_le' k l
  unfold txJ
  rw [e, ByteArray.size_append, ByteArray.size_append, factsT_size]
  have h3 : (strOfNums [48 + (l[k].rule : Int)]).size = 1 := rfl
  have h4 := List.length_take_le' j l[k].facts
  have h5 := h l[k] (List.getElem_mem hk)
  omega

set_option maxRecDepth 20000 in
set_option maxHeartbeats 2000000 in
theorem pwrite_any (wt : Nat → Int) (l : List In) (a0 : Option Addr) (c0 : Nat) (w : World) (hl : l.length ≤ 2160000) (hok : ∀ i ∈ l, i.facts.length ≤ 3 ∧ i.rule ≤ 9 ∧ ∀ q ∈ i.facts, q.1 < 60 ∧ 0 ≤ q.2.1 ∧ q.2.1 ≤ 9)
    (hrow : 0 < l.length → ∃ g o, a0 = some ⟨g, o, none⟩ ∧ g < w.heap.size ∧ w.rangeAt g o (insW wt l)) :
    Calls Tryz.prog 62 #[.slice a0 l.length c0] w fun e w' => e = .returned (.string (toldT l)) ∧ w.grownBy w' none := by
  obtain ⟨i0, hi0, hz0, hz1, hz2⟩ := info_parts Tryz.infoB
  have HROW := hid hrow
  have HOK := hid hok
  have HTZ : Hid (∀ k, (toldT (l.take k)).size ≤ 700000000) := hid (fun k => by
    have h1 := toldT_size (l.take k) (fun i hi => by have := (hok i (List.mem_of_mem_take hi)).1; omega)
    have h2 := List.length_take_le' k l
    omega)
  have HTJ : Hid (∀ k (hk : k < l.length) j, (txJ l k j).size ≤ 700000000) := hid (fun k hk j => txJ_size l k hk (fun i hi => (hok i hi).1) hl j)
  clear hrow hok
  go_enter Tryz.func62, Tryz.ntmps62
  go_wp2_with fail
  go_loopw [3, 10] (fun t i wr => ∃ k : Nat, k ≤ l.length ∧ i = .int .i64 k ∧ wr.ownsRow w.heap.size 5 1 t (toldT (l.take k)).size (Lib.strCells (toldT (l.take k))) ∧ w.grownBy wr none) (fun _ i _ => l.length - (intOf i).toNat)
  case atStart => exact ⟨0, by omega, rfl, by simpa [toldT, joined, Lib.strCells] using World.ownsRow_nil w w.heap.size 5 1, grown_refl _ _⟩
  case round =>
    obtain ⟨k, hk, rfl, hown, hg⟩ := hrel
    have HG := hid hg
    have HOW := hid hown
    have hsz := hg.size
    by_cases hlt : k < l.length
    · obtain ⟨g, o, rfl, hgb, hrg⟩ := HROW.out (by omega)
      obtain ⟨hf3, hr9, hq⟩ := HOK.out l[k] (List.getElem_mem hlt)
      have HQ := hid hq
      obtain ⟨L, hL⟩ : ∃ L, L = inCells (wt l[k].rule) l[k] := ⟨_, rfl⟩
      have HRG : Hid (wr.rangeAt g (o + k * 24) L) := hid (by rw [hL]; exact range_grown (insW_at wt hrg hlt) hg)
      have hLl : L.length = 24 := by rw [hL]; rfl
      have HIL : Hid ((Tryz.prog.info? 176).map (·.size) = some L.length) := hid (by rw [hLl]; exact info_inst)
      have HONA : Hid (L.toArray.all (·.oneCell') = true) := hid (all_oneCell_toArray (by rw [hL]; exact inCells_one _ _))
      have HBN : Hid ((wr.alloc (.cells L.toArray 176)).heap[wr.heap.size]? = some (.cells L.toArray 176 (0, 0))) := hid (heap_alloc_new wr _)
      obtain ⟨rl, hrl⟩ : ∃ rl, rl = l[k].rule := ⟨_, rfl⟩
      obtain ⟨nf, hnf⟩ : ∃ nf, nf = l[k].facts.length := ⟨_, rfl⟩
      have hrb : rl ≤ 9 := by omega
      have hnb : nf ≤ 3 := by omega
      have c0' : (wr.alloc (.cells L.toArray 176)).cell? ⟨wr.heap.size, 0, none⟩ = some (.int .i64 rl) := cell_list HBN.out (by rw [hL, hrl]; rfl)
      have HL3 : Hid (L[3]? = some (.int .i64 nf)) := hid (by rw [hL, hnf]; rfl)
      have HLQ : Hid (∀ j (hj : j < l[k].facts.length), ∀ x v, (facL l[k].facts[j])[x]? = some v → L[4 + j * 4 + x]? = some v) := hid (fun j hj x v hv => by
        have ef : ftA l[k].facts j = l[k].facts[j] := by simp [ftA, List.getD, List.getElem?_eq_getElem hj]
        have hx := (List.getElem?_eq_some_iff.1 hv).1
        rw [facL_len] at hx
        rw [← ef] at hv
        rw [hL, ← hv]
        match j, (show j < 3 by omega), x, hx with
        | 0, _, 0, _ => rfl
        | 0, _, 1, _ => rfl
        | 0, _, 2, _ => rfl
        | 0, _, 3, _ => rfl
        | 1, _, 0, _ => rfl
        | 1, _, 1, _ => rfl
        | 1, _, 2, _ => rfl
        | 1, _, 3, _ => rfl
        | 2, _, 0, _ => rfl
        | 2, _, 1, _ => rfl
        | 2, _, 2, _ => rfl
        | 2, _, 3, _ => rfl)
      obtain ⟨ta, tm, tc, rfl⟩ := own_slice hown
      have em := own_len hown
      subst em
      have hts := HTZ.out k
      have HZ := hid (txJ_zero l k hlt)
      have HSU := hid (txJ_succ l k hlt)
      have HAL := hid (txJ_all l k hlt)
      have HTK := hid (HTJ.out k hlt)
      have hne : g ≠ wr.heap.size := by omega
      have hgl : g < wr.heap.size := by omega
      rw [← hrl] at HZ
      rw [← hnf] at HAL
      have HS1 : Hid (∀ (w3 : World) (v' : Value), w3.ownsRow w.heap.size 5 1 v' ((toldT (l.take k)).size + 1) (Lib.strCells (toldT (l.take k)) ++ [.int .u8 (48 + (rl : Int))]) → w3.ownsRow w.heap.size 5 1 v' (txJ l k 0).size (Lib.strCells (txJ l k 0))) := hid (fun w3 v' h => by
        rw [HZ.out, strCells_app, strCells_num (by omega) (by omega), ByteArray.size_append]
        exact h)
      have how1 := own_kept HOW.out (grown_alloc (grown_alloc (grown_refl wr none) (.cells L.toArray 176)) (.cells #[.int .u8 (48 + (rl : Int))] 5)) (fun g hg => by cases hg)
      have HNW : Hid (∀ (j : Nat) (u : Value), ([.int .u8 (48 + (rl : Int))] : List Value)[j]? = some u → ((wr.alloc (.cells L.toArray 176)).alloc (.cells #[.int .u8 (48 + (rl : Int))] 5)).cell? ((⟨wr.heap.size + 1, 0, none⟩ : Addr).add j) = some u) := hid (fun j u hj => by
        have := news_at1 (w := wr.alloc (.cells L.toArray 176)) (t := 5) hj
        rw [show (wr.alloc (.cells L.toArray 176)).heap.size = wr.heap.size + 1 by simp] at this
        exact this)
      have HLT := hid (fun g hg => (HOW.out.lt g hg).1)
      have HOB : Hid (∀ g, (Value.slice ta (toldT (l.take k)).size tc).ownBlock = some g → g < wr.heap.size) := hid (fun g hg => (HOW.out.lt g hg).2)
      obtain ⟨t0, ht0⟩ : ∃ t0, t0 = toldT (l.take k) := ⟨_, rfl⟩
      rw [← ht0] at how1 HLT HOB HS1 hts ⊢
      have w48 : (48 : Int) + (rl : Int) ≤ 255 := by omega
      have HNF := hid hnf
      clear ht0 hL hown hg hq hrl hnf hrg HZ
      go_wp2_with (first
        | (refine wpList_load_mid rfl 176 (.tmp 12) rfl g (o + k * 24) rfl L _ HRG.out Tryz.underlying176 rfl HIL.out ?_)
        | (refine wpList_store_new rfl 176 (.tmp 5) (.tmp 13) rfl _ L rfl rfl hLl.symm HIL.out HONA.out ?_)
        | (at_builtin; refine wpList_append_own _ rfl (.tmp 14) (.tmp 19) 160 rfl (w.heap.size) 5 i0 (.int .u8 0) 1 1 Tryz.underlying160 hi0 hz0 hz1 hz2 rfl (by decide) _ _ _ rfl how1 _ 1 1 [.int .u8 (48 + (rl : Int))] rfl rfl HNW.out (by simp [Value.oneCell']) (by unfold maxLen; omega) (by omega) (by simp; omega) ?_))
      intro v1 w3 hown3 hg3 _
      have HO3 := hid (HS1.out _ _ hown3)
      have HG3 : Hid (w.grownBy w3 none) := hid (grown_own2 (grown_trans HG.out (grown_alloc (grown_alloc (grown_refl wr none) _) _)) hg3 HLT.out)
      have HB3 : Hid (w3.heap[wr.heap.size]? = some (.cells L.toArray 176 (0, 0))) := hid (by
        have h4 := (Below.heap_alloc (wr.alloc (.cells L.toArray 176)) (.cells #[.int .u8 (48 + (rl : Int))] 5) _ (lt_of_block HBN.out)).trans HBN.out
        exact (hg3.block _ (lt_of_block h4) (fun e => by
          have := HOB.out _ e.symm
          omega)).trans h4)
      clear hown3 hg3 how1 HS1 c0'
      go_wp2_with fail
      go_loopw [3, 6] (fun t i wr2 => ∃ j : Nat, j ≤ nf ∧ i = .int .i64 j ∧ wr2.ownsRow w.heap.size 5 1 t (txJ l k j).size (Lib.strCells (txJ l k j)) ∧ w.grownBy wr2 none ∧ wr2.heap[wr.heap.size]? = some (.cells L.toArray 176 (0, 0))) (fun _ i _ => nf - (intOf i).toNat)
      case atStart => exact ⟨0, by omega, rfl, HO3.out, HG3.out, HB3.out⟩
      case round =>
        rename World => wr2
        obtain ⟨j, hj, rfl, hown, hg2, hbl⟩ := hrel
        have HG2 := hid hg2
        have HOW2 := hid hown
        have HBL := hid hbl
        have hsz2 := hg2.size
        have hbs := lt_of_block hbl
        have d3 : wr2.cell? ⟨wr.heap.size, 3, none⟩ = some (.int .i64 nf) := cell_list hbl HL3.out
        obtain ⟨ua, um, uc, rfl⟩ := own_slice hown
        have em2 := own_len hown
        subst em2
        have hts2 := HTK.out j
        have HLT2 := hid (fun g hg => (HOW2.out.lt g hg).1)
        have HNB : Hid (∀ g, (Value.slice ua (txJ l k j).size uc).ownBlock = some g → g ≠ wr.heap.size) := hid (fun g hg e => by
          subst e
          exact own_ne_ty HOW2.out HBL.out (by decide) hg)
        by_cases hltj : j < nf
        · have hjf : j < l[k].facts.length := by have := HNF.out; omega
          obtain ⟨Q, hQ⟩ : ∃ Q, Q = facL l[k].facts[j] := ⟨_, rfl⟩
          have hQl : Q.length = 4 := by rw [hQ]; rfl
          have HIQ : Hid ((Tryz.prog.info? 114).map (·.size) = some Q.length) := hid (by rw [hQl]; exact info_fact)
          have HRQ : Hid (wr2.rangeAt wr.heap.size (4 + j * 4) Q) := hid (range_drop hbl (fun x v hv => by rw [hQ] at hv; exact HLQ.out j hjf x v hv))
          obtain ⟨q1, q2, q3⟩ := HQ.out l[k].facts[j] (List.getElem_mem hjf)
          have HTX : Hid (∀ W, Calls Tryz.prog 50 #[.agg Q.toArray] W fun e w' => e = .returned (.string (factP l[k].facts[j].1 l[k].facts[j].2.1)) ∧ W.grownBy w' none) := hid (fun W => by
            rw [hQ]
            exact facttext_any l[k].facts[j].1 l[k].facts[j].2.1 l[k].facts[j].2.2 W q1 q2 q3)
          have HSJ := hid (HSU.out j hjf)
          have hfz := size_factP l[k].facts[j].1 l[k].facts[j].2.1
          obtain ⟨ft, hft⟩ : ∃ ft, ft = factP l[k].facts[j].1 l[k].facts[j].2.1 := ⟨_, rfl⟩
          rw [← hft] at HTX HSJ hfz
          have HS2 : Hid (∀ (w4 : World) (v' : Value), w4.ownsRow w.heap.size 5 1 v' ((txJ l k j).size + 3) (Lib.strCells (txJ l k j) ++ Lib.strCells ft) → w4.ownsRow w.heap.size 5 1 v' (txJ l k (j + 1)).size (Lib.strCells (txJ l k (j + 1)))) := hid (fun w4 v' h => by
            rw [HSJ.out, strCells_app, ByteArray.size_append, hfz]
            exact h)
          obtain ⟨t1, ht1⟩ : ∃ t1, t1 = txJ l k j := ⟨_, rfl⟩
          rw [← ht1] at HOW2 HLT2 HNB HS2 hts2 ⊢
          have j3 : (j : Int) < 3 := by omega
          have j0 : (0 : Int) ≤ (j : Int) := by omega
          clear ht1 hft hQ hown hg2 hbl q1 q2 q3 HSJ HLQ HSU
          go_wp2_with (first
            | (refine wpList_load_mid rfl 114 (.tmp 33) rfl wr.heap.size (4 + j * 4) rfl Q _ HRQ.out Tryz.underlying114 rfl HIQ.out ?_))
          go_at_call 50
          refine (HTX.out _).mono ?_
          rintro e w4 ⟨rfl, hg4⟩
          have HG4 := hid hg4
          have hs4 := hg4.size
          have how4 := own_kept HOW2.out hg4 (fun g hg => by cases hg)
          clear hg4
          go_wp2_with (first
            | (at_builtin; refine Lib.wpList_append_own_string _ rfl (.tmp 36) (.tmp 37) 160 9 rfl (w.heap.size) 5 i0 Tryz.underlying160 Tryz.underlying9 hi0 hz0 hz1 hz2 _ _ _ rfl how4 ft rfl (by unfold maxLen; omega) (by omega) (by omega) ?_))
          intro v5 w5 hown5 hg5 _
          have HO5 := hid (HS2.out _ _ hown5)
          have HG5 : Hid (w.grownBy w5 none) := hid (grown_own2 (grown_trans HG2.out HG4.out) hg5 HLT2.out)
          have HB5 : Hid (w5.heap[wr.heap.size]? = some (.cells L.toArray 176 (0, 0))) := hid (by
            have h4 := (HG4.out.block _ hbs (by simp)).trans HBL.out
            exact (hg5.block _ (lt_of_block h4) (fun e => HNB.out _ e.symm rfl)).trans h4)
          clear hown5 hg5 how4
          go_wp2_with fail
          go_roundw
          case rel => exact ⟨j + 1, by omega, by go_num, HO5.out, HG5.out, HB5.out⟩
          case measure => simp [intOf]; omega
        · have ej : j = nf := by omega
          subst ej
          have HS2 : Hid (∀ (w4 : World) (v' : Value), w4.ownsRow w.heap.size 5 1 v' ((txJ l k j).size + 1) (Lib.strCells (txJ l k j) ++ [.int .u8 59]) → w4.ownsRow w.heap.size 5 1 v' (toldT (l.take (k + 1))).size (Lib.strCells (toldT (l.take (k + 1))))) := hid (fun w4 v' h => by
            rw [← HAL.out, strCells_app, strCells_semi, ByteArray.size_append]
            exact h)
          have how4 := own_kept HOW2.out (grown_alloc (grown_refl wr2 none) (.cells #[.int .u8 59] 5)) (fun g hg => by cases hg)
          obtain ⟨t1, ht1⟩ : ∃ t1, t1 = txJ l k j := ⟨_, rfl⟩
          rw [← ht1] at HOW2 HLT2 HNB HS2 hts2 how4 ⊢
          clear ht1 hown hg2 hbl HLQ HSU
          go_wp2_with (first
            | (at_builtin; refine wpList_append_own _ rfl (.tmp 39) (.tmp 40) 160 rfl (w.heap.size) 5 i0 (.int .u8 0) 1 1 Tryz.underlying160 hi0 hz0 hz1 hz2 rfl (by decide) _ _ _ rfl how4 _ 1 1 [.int .u8 59] rfl rfl (fun j u hj => news_at1 hj) (by simp [Value.oneCell']) (by unfold maxLen; omega) (by omega) (by simp; omega) ?_))
          intro v5 w5 hown5 hg5 _
          have HO5 := hid (HS2.out _ _ hown5)
          have HG5 : Hid (w.grownBy w5 none) := hid (grown_own2 (grown_trans HG2.out (grown_alloc (grown_refl wr2 none) _)) hg5 HLT2.out)
          clear hown5 hg5 how4
          go_wp2_with fail
          go_roundw
          case rel => exact ⟨k + 1, by omega, by go_num, HO5.out, HG5.out⟩
          case measure => simp [intOf]; omega
    · have hkl : k = l.length := by omega
      subst hkl
      rw [List.take_length] at HOW hown
      have hcv := own_string hown
      clear hg hown
      go_wp2_with fail
      go_ret
      exact ⟨rfl, HG.out⟩

end Go.Proofs.YthlhbjnkohinmaaGreat
