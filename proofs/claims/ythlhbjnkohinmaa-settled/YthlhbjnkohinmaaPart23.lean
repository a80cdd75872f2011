import Derived.Test.YthlhbjnkohinmaaSet1
/- The weights' order, in memory: weight, sorted. -/
namespace Go.Proofs.Ythlhbjnkohinmaa
open Go.RowKit

set_option maxRecDepth 20000 in
set_option maxHeartbeats 1000000 in
theorem weight_any (s : ByteArray) (n p : Nat) (w : World) (hs : s.size ≤ maxLen) (hb : BegAt s n p) :
    Calls Try.prog 42 #[.string s, .int .i64 n] w fun e w' => e = .returned (.int .u8 (bt s p)) ∧ w' = w := by
  obtain ⟨hp, hc, hq⟩ := hb
  have HQ := hid hq
  have HCN : Hid (∀ i, i ≤ p → cnt59 s i ≤ n) := hid (fun i hi => by have := cnt59_mono s hi; omega)
  have hm : s.size ≤ 9223372036854775807 := Nat.le_trans hs (by decide)
  have hnp : n ≤ p := by
    have key : ∀ i, cnt59 s i ≤ i := by
      intro i
      induction i with
      | zero => exact Nat.le_refl 0
      | succ i ih =>
        show cnt59 s i + (if bt s i = 59 then 1 else 0) ≤ i + 1
        split <;> omega
    have := key p
    omega
  have HCP := hid hc
  clear hq hs hc
  go_enter Try.func42, Try.ntmps42
  go_wp2_with fail
  go_loop [5, 6] (fun t i => ∃ k : Nat, k ≤ p ∧ i = .int .i64 k ∧ t = .int .i64 (cnt59 s k : Nat)) (fun _ i => s.size - (intOf i).toNat)
  case atStart => exact ⟨0, by omega, rfl, rfl⟩
  case round =>
    obtain ⟨k, hk, rfl, rfl⟩ := hrel
    have hlt : k < s.size := by omega
    have hbt := bt_in hlt
    have HB := hid hbt
    have hbd := bt_bd s k
    rw [hbt] at hbd
    clear hbt
    by_cases e : k = p
    · subst e
      rw [HCP.out]
      go_wp2_with fail
      go_ret
      exact ⟨by rw [HB.out]; rfl, rfl⟩
    · have hne := HQ.out k (by omega)
      have hle := HCN.out k hk
      have HSU : Hid (cnt59 s (k + 1) = cnt59 s k + (if bt s k = 59 then 1 else 0)) := hid rfl
      rw [HB.out] at HSU
      obtain ⟨m, hm'⟩ : ∃ m, m = cnt59 s k := ⟨_, rfl⟩
      rw [← hm'] at hne hle HSU ⊢
      have q : ((m : Int) == (n : Int)) = false := by
        simp only [beq_eq_false_iff_ne, ne_eq]
        omega
      clear hm' hne
      by_cases h59 : (s[k].toNat : Int) = 59
      · have q2 : ((s[k].toNat : Int) == 59) = true := by simpa using h59
        have HS2 : Hid (cnt59 s (k + 1) = m + 1) := hid (by rw [HSU.out, if_pos h59])
        clear h59
        go_wp2_with fail
        go_round
        case rel => exact ⟨k + 1, by omega, by go_num, by rw [HS2.out]; go_num⟩
        case measure => simp [intOf]; omega
      · have q2 : ((s[k].toNat : Int) == 59) = false := by simpa using h59
        have HS2 : Hid (cnt59 s (k + 1) = m) := hid (by rw [HSU.out, if_neg h59]; rfl)
        clear h59
        go_wp2_with fail
        go_round
        case rel => exact ⟨k + 1, by omega, by go_num, by rw [HS2.out]⟩
        case measure => simp [intOf]; omega

/-- The weight of the instantiation ahead of the p-th. -/
def lwI (wb : Nat → Int) (l : List In) : Nat → Int
  | 0 => 57
  | p + 1 => wb (l.getD p ⟨0, [], fun _ => none⟩).rule
set_option maxRecDepth 20000 in
set_option maxHeartbeats 2000000 in
theorem sorted_any (s : ByteArray) (l : List In) (wb : Nat → Int) (w : World) (hs : s.size ≤ maxLen) (hm : (toldT l).size ≤ 9223372036854775806) (hin : ∀ i ∈ l, InTx i ∧ i.rule ≤ 8 ∧ ∃ p, BegAt s i.rule p ∧ wb i.rule = bt s p ∧ 48 ≤ wb i.rule ∧ wb i.rule ≤ 57) (hso : l.Pairwise fun a b => wb b.rule ≤ wb a.rule) :
    Calls Try.prog 20 #[.string s, .string (toldT l)] w fun e w' => e = .returned (.bool true) ∧ w' = w := by
  have HAT : Hid (∀ p (hp : p < l.length) q, q < (tellT l[p]).size → (toldT (l.take p)).size + q < (toldT l).size ∧ bt (toldT l) ((toldT (l.take p)).size + q) = bt (tellT l[p]) q) := hid (fun p hp q hq => told_at hp hq)
  have HALL : Hid (toldT (l.take l.length) = toldT l) := hid (by rw [List.take_length])
  have HSU : Hid (∀ p (hp : p < l.length), (toldT (l.take (p + 1))).size = (toldT (l.take p)).size + (tellT l[p]).size) := hid (fun p hp => told_succ hp)
  have HWT : Hid (∀ p (hp : p < l.length) W, Calls Try.prog 42 #[.string s, .int .i64 (l[p].rule : Nat)] W fun e w' => e = .returned (.int .u8 (wb l[p].rule)) ∧ w' = W) := hid (fun p hp W => by
    obtain ⟨_, _, q, h1, h2, _⟩ := hin _ (List.getElem_mem hp)
    rw [h2]
    exact weight_any s l[p].rule q W hs h1)
  have HLW : Hid (∀ p (hp : p < l.length), wb l[p].rule ≤ lwI wb l p ∧ lwI wb l p ≤ 57) := hid (fun p hp => by
    cases p with
    | zero => exact ⟨(hin _ (List.getElem_mem hp)).2.2.elim (fun q h => h.2.2.2), Int.le_refl _⟩
    | succ p =>
      have e : lwI wb l (p + 1) = wb l[p].rule := by
        show wb (l.getD p _).rule = _
        rw [List.getD, List.getElem?_eq_getElem (by omega)]
        rfl
      rw [e]
      exact ⟨List.pairwise_iff_getElem.mp hso p (p + 1) (by omega) hp (by omega), (hin _ (List.getElem_mem (by omega))).2.2.elim (fun q h => h.2.2.2)⟩)
  have HNX : Hid (∀ p (hp : p < l.length), lwI wb l (p + 1) = wb l[p].rule) := hid (fun p hp => by
    show wb (l.getD p _).rule = _
    rw [List.getD, List.getElem?_eq_getElem hp]
    rfl)
  have HIN := hid hin
  generalize hM : toldT l = m at HAT HALL hm ⊢
  clear hin hso hM
  go_enter Try.func20, Try.ntmps20
  go_wp2_with fail
  go_loop [5, 6, 7] (fun la be i => ∃ p q : Nat, p ≤ l.length ∧ i = .int .i64 (((toldT (l.take p)).size + q : Nat) : Int) ∧ (toldT (l.take p)).size + q ≤ m.size ∧ ((q = 0 ∧ be = .bool true ∧ la = .int .u8 (lwI wb l p)) ∨ (0 < q ∧ be = .bool false ∧ ∃ hp : p < l.length, q < (tellT l[p]).size ∧ la = .int .u8 (wb l[p].rule)))) (fun _ _ i => m.size - (intOf i).toNat)
  case atStart => exact ⟨0, 0, Nat.zero_le _, rfl, Nat.zero_le _, .inl ⟨rfl, rfl, rfl⟩⟩
  case round =>
    obtain ⟨p, q, hp, rfl, hqm, hcase⟩ := hrel
    rcases hcase with ⟨rfl, rfl, rfl⟩ | ⟨hq0, rfl, hpl, hqs, rfl⟩
    · by_cases hpl : p < l.length
      · obtain ⟨hi, hr8, _, _, _, hw0, hw9⟩ := HIN.out _ (List.getElem_mem hpl)
        have hts := tell_size l[p]
        obtain ⟨hlt, hbt⟩ := HAT.out p hpl 0 (by omega)
        rw [tell_first hi] at hbt
        have hl := HLW.out p hpl
        have HW := hid (HWT.out p hpl)
        obtain ⟨i0, hi0⟩ : ∃ i0, i0 = (toldT (l.take p)).size + 0 := ⟨_, rfl⟩
        rw [← hi0] at hlt hbt hqm ⊢
        rw [bt_in hlt] at hbt
        have hrl : (m[i0].toNat : Int) - 48 = ((l[p].rule : Nat) : Int) := by omega
        have HRU := hid hrl
        rw [← hrl] at HW
        have q59 : ((m[i0].toNat : Int) == 59) = false := by
          simp only [beq_eq_false_iff_ne, ne_eq]
          omega
        have HNP : Hid (∀ la be, be = Value.bool false → la = Value.int .u8 (wb l[p].rule) → ∃ p' q' : Nat, p' ≤ l.length ∧ Value.int .i64 ((i0 : Int) + 1) = .int .i64 (((toldT (l.take p')).size + q' : Nat) : Int) ∧ (toldT (l.take p')).size + q' ≤ m.size ∧ ((q' = 0 ∧ be = .bool true ∧ la = .int .u8 (lwI wb l p')) ∨ (0 < q' ∧ be = .bool false ∧ ∃ hp : p' < l.length, q' < (tellT l[p']).size ∧ la = .int .u8 (wb l[p'].rule)))) := hid (fun la be h1 h2 => ⟨p, 1, hp, by rw [hi0]; simp, by omega, .inr ⟨by omega, h1, hpl, by omega, h2⟩⟩)
        have hb2 : 0 ≤ (m[i0].toNat : Int) ∧ (m[i0].toNat : Int) ≤ 255 := by omega
        obtain ⟨lw, hlw⟩ : ∃ lw, lw = lwI wb l p := ⟨_, rfl⟩
        obtain ⟨wv, hwv⟩ : ∃ wv, wv = wb l[p].rule := ⟨_, rfl⟩
        rw [← hlw] at hl ⊢
        rw [← hwv] at hl HW hw0 hw9 HNP
        have hgt : ¬ wv > lw := by omega
        have q0 : (wv == 0) = false := by
          simp only [beq_eq_false_iff_ne, ne_eq]
          omega
        clear hlw hwv hi0 hbt hrl
        go_wp2_with fail
        go_at_call 42
        refine (HW.out _).mono ?_
        rintro e w1 ⟨rfl, rfl⟩
        go_wp2_with fail
        go_round
        case rel => exact HNP.out _ _ rfl rfl
        case measure => simp [intOf]; omega
      · have hpe : p = l.length := by omega
        subst hpe
        rw [HALL.out]
        go_wp2_with fail
        go_ret
        exact ⟨rfl, rfl⟩
    · obtain ⟨hi, hr8, _, _, _, hw0, hw9⟩ := HIN.out _ (List.getElem_mem hpl)
      have hsu := HSU.out p hpl
      obtain ⟨hlt, hbt⟩ := HAT.out p hpl q hqs
      have hnx := HNX.out p hpl
      obtain ⟨i0, hi0⟩ : ∃ i0, i0 = (toldT (l.take p)).size + q := ⟨_, rfl⟩
      rw [← hi0] at hlt hbt hqm ⊢
      rw [bt_in hlt] at hbt
      by_cases hlast : q + 1 = (tellT l[p]).size
      · have e59 : (m[i0].toNat : Int) = 59 := by
          rw [hbt, show q = (tellT l[p]).size - 1 by omega]
          exact tell_last _
        have q59 : ((m[i0].toNat : Int) == 59) = true := by simpa using e59
        have HNP : Hid (∀ la be, be = Value.bool true → la = Value.int .u8 (wb l[p].rule) → ∃ p' q' : Nat, p' ≤ l.length ∧ Value.int .i64 ((i0 : Int) + 1) = .int .i64 (((toldT (l.take p')).size + q' : Nat) : Int) ∧ (toldT (l.take p')).size + q' ≤ m.size ∧ ((q' = 0 ∧ be = .bool true ∧ la = .int .u8 (lwI wb l p')) ∨ (0 < q' ∧ be = .bool false ∧ ∃ hp : p' < l.length, q' < (tellT l[p']).size ∧ la = .int .u8 (wb l[p'].rule)))) := hid (fun la be h1 h2 => ⟨p + 1, 0, by omega, by congr 1; omega, by omega, .inl ⟨rfl, h1, by rw [h2, hnx]⟩⟩)
        generalize wb l[p].rule = wv at HNP ⊢
        clear hi0 hbt e59 hnx
        go_wp2_with fail
        go_round
        case rel => exact HNP.out _ _ rfl rfl
        case measure => simp [intOf]; omega
      · have hne := tell_mid hi hq0 (q := q) (by omega)
        rw [← hbt] at hne
        have q59 : ((m[i0].toNat : Int) == 59) = false := by simpa using hne
        have HNP : Hid (∀ la be, be = Value.bool false → la = Value.int .u8 (wb l[p].rule) → ∃ p' q' : Nat, p' ≤ l.length ∧ Value.int .i64 ((i0 : Int) + 1) = .int .i64 (((toldT (l.take p')).size + q' : Nat) : Int) ∧ (toldT (l.take p')).size + q' ≤ m.size ∧ ((q' = 0 ∧ be = .bool true ∧ la = .int .u8 (lwI wb l p')) ∨ (0 < q' ∧ be = .bool false ∧ ∃ hp : p' < l.length, q' < (tellT l[p']).size ∧ la = .int .u8 (wb l[p'].rule)))) := hid (fun la be h1 h2 => ⟨p, q + 1, hp, by congr 1; omega, by omega, .inr ⟨by omega, h1, hpl, by omega, h2⟩⟩)
        generalize wb l[p].rule = wv at HNP ⊢
        clear hi0 hbt hne hnx
        go_wp2_with fail
        go_round
        case rel => exact HNP.out _ _ rfl rfl
        case measure => simp [intOf]; omega

end Go.Proofs.Ythlhbjnkohinmaa

/- Settled: what is open ahead of a run and behind it: plain. -/
namespace Go.Proofs.Ythlhbjnkohinmaa
open Go.RowKit

/-- What is open, in its order. -/
def matL (X : PEng) (F : Mks) (k : Nat) : List In := isort (ltI (wgt X.src.2.1 X.src.2.2)) (opN X.src.2.1 (sawX X k) X.src.2.2 (fdM (F k)) X.src.2.2.length)
theorem pmat_list {X : PEng} {F : Mks} {n : Int} {k : Nat} (hf : findP X n = some k) : pmatE X F n = (toldT (matL X F k), 0) := by
  unfold pmatE
  rw [hf]
  rfl
/-- A rule's weight, as it is written. -/
def wbR (s : ByteArray) (R : List RuleP) (r : Nat) : Int := bt s (R.getD r (0, [], [])).1
theorem matL_mem {X : PEng} {F : Mks} {k : Nat} {i : In} (h : i ∈ matL X F k) : i ∈ instN 0 X.src.2.1 (sawX X k) X.src.2.2 X.src.2.2.length := by
  have := isort_mem.mp h
  unfold opN at this
  exact (List.mem_filter.mp this).1
theorem matL_ok {j : Nat} {X : PEng} (hg : Fit j X) (F : Mks) {k : Nat} (hk : k < 8) (hread : ReadAns X.src.2.1 0 0 (some X.src.2.2)) :
    (∀ i ∈ matL X F k, InTx i ∧ i.rule ≤ 8 ∧ ∃ p, BegAt X.src.2.1 i.rule p ∧ wbR X.src.2.1 X.src.2.2 i.rule = bt X.src.2.1 p ∧ 48 ≤ wbR X.src.2.1 X.src.2.2 i.rule ∧ wbR X.src.2.1 X.src.2.2 i.rule ≤ 57) ∧ (matL X F k).Pairwise (fun a b => wbR X.src.2.1 X.src.2.2 b.rule ≤ wbR X.src.2.1 X.src.2.2 a.rule) ∧ (toldT (matL X F k)).size ≤ 9223372036854775806 := by
  have hR := read_rulesP hread
  have hd := hg.seen hk
  have hFO : FOk (sawX X k) := fun q hq => ⟨(sawX_mem hq).1, hd q.1 q.2.1 (sawX_mem hq).1 (sawX_mem hq).2⟩
  have hFl := sawX_le X k
  have h9 := hR.nine
  refine ⟨fun i hi => ?_, ?_, ?_⟩
  · have hm := matL_mem hi
    obtain ⟨a1, a2, a3⟩ := instN_ok hFO hFl hR.walk hR.nine i hm
    have hr := (inst_all hFO hFl hR.walk hm).1
    have e : X.src.2.2.getD i.rule (0, [], []) = X.src.2.2[i.rule] := by simp [List.getD, List.getElem?_eq_getElem hr]
    have hdg := hR.dig _ (List.getElem_mem hr)
    simp [digB] at hdg
    refine ⟨⟨a2, a3⟩, by omega, X.src.2.2[i.rule].1, read_beg hread i.rule hr, ?_, ?_, ?_⟩
    · unfold wbR; rw [e]
    · unfold wbR; rw [e]; omega
    · unfold wbR; rw [e]; omega
  · refine List.Pairwise.imp ?_ (isort_sorted (ltI_weak (wgt X.src.2.1 X.src.2.2)) _)
    intro a b h
    unfold ltI ahB at h
    unfold wbR
    unfold wgt at h
    split at h
    · rw [decide_eq_false_iff_not] at h
      omega
    · omega
  · have hl : (matL X F k).length ≤ 9 * 216000 := by
      unfold matL
      rw [isort_len]
      unfold opN
      have h1 := List.length_filter_le (fun i => !fdM (F k) i) (instN 0 X.src.2.1 (sawX X k) X.src.2.2 X.src.2.2.length)
      have h2 := instN_le hFl hR.walk X.src.2.2.length (Nat.le_refl _)
      have h3 : X.src.2.2.length * 216000 ≤ 9 * 216000 := Nat.mul_le_mul_right _ h9
      omega
    have := toldT_size (matL X F k) (fun i hi => by
      have := (instN_ok hFO hFl hR.walk hR.nine i (matL_mem hi)).1
      omega)
    omega
theorem setSes_self (X : PEng) (k : Nat) : X.setSes k (X.ses k) = X := by
  unfold PEng.setSes
  have : upd X.ses k (X.ses k) = X.ses := by
    funext j
    unfold upd
    split
    · rename_i h; rw [h]
    · rfl
  rw [this]
theorem upd_self {α : Type} (f : Nat → α) (k : Nat) : upd f k (f k) = f := by
  funext j
  unfold upd
  split
  · rename_i h; rw [h]
  · rfl
theorem fst_matL (s : ByteArray) (R : List RuleP) (f : Nat → Int × Option Int) (S : PSes) (fm : Nat → Option Int) : fstS s R f S fm = none ↔ isort (ltI (wgt s R)) (opN s (sawN S f 60) R (fdM fm) R.length) = [] := by
  unfold fstS fstI
  rw [List.head?_eq_none_iff]
/-- What is known behind a run. -/
theorem settled_plain {i : Nat} {X : PEng} (hg : Fit i X) (F : Mks) {ss : Int} {k : Nat} (hf : findP X ss = some k) (n : Nat) (hn : n ≤ 99) (hR : RulesP X.src.2.1 X.src.2.2) :
    findP (prunE X F ss n).2.1 ss = some k ∧ (prunE X F ss n).1.2.2 = 0 ∧ (0 ≤ (prunE X F ss n).1.1 ∧ (prunE X F ss n).1.1 ≤ n) ∧ ((prunE X F ss n).1.1 = 0 → (prunE X F ss n).2.1 = X ∧ (prunE X F ss n).2.2 = F) ∧ (prunE X F ss n).2.1.src = X.src ∧
    (((prunE X F ss n).1.2.1 = 1 ∧ matL (prunE X F ss n).2.1 (prunE X F ss n).2.2 k = []) ∨ ((prunE X F ss n).1.2.1 = 2 ∧ (prunE X F ss n).1.1 = n ∧ matL (prunE X F ss n).2.1 (prunE X F ss n).2.2 k ≠ []) ∨
     ((prunE X F ss n).1.2.1 = 3 ∧ 0 < (prunE X F ss n).1.1 ∧ matL X F k ≠ []) ∨ ((prunE X F ss n).1.2.1 = 4 ∧ (prunE X F ss n).1.1 < n ∧ matL (prunE X F ss n).2.1 (prunE X F ss n).2.2 k ≠ [])) := by
  have hk := (findP_spec hf).1
  have e : prunE X F ss (n : Int) = (((((runX X F k n).1.1 : Nat) : Int), (runX X F k n).1.2, 0), X.setSes k (runX X F k n).2.1, upd F k (runX X F k n).2.2) := by
    unfold prunE
    rw [hf]
    simp only []
    rw [if_pos (by omega), Int.toNat_natCast]
  rw [e]
  have hok := runS_ok hR n (X.ses k) (F k) (hg.wok hk)
  have hle := runS_le X.src.2.1 X.src.2.2 (fun c => histV (X.hist c) (X.ses k).snap) n (X.ses k) (F k)
  obtain ⟨h0, hw⟩ := runS_why X.src.2.1 X.src.2.2 (fun c => histV (X.hist c) (X.ses k).snap) n (X.ses k) (F k)
  have hX : runX X F k n = runS X.src.2.1 X.src.2.2 (fun c => histV (X.hist c) (X.ses k).snap) n (X.ses k) (F k) := rfl
  rw [← hX] at hle h0 hw hok
  have hend : fstS X.src.2.1 X.src.2.2 (fun c => histV (X.hist c) (X.ses k).snap) (runX X F k n).2.1 (runX X F k n).2.2 = none ↔ matL (X.setSes k (runX X F k n).2.1) (upd F k (runX X F k n).2.2) k = [] := by
    rw [fst_matL]
    unfold matL sawX
    have hself : (X.setSes k (runX X F k n).2.1).ses k = (runX X F k n).2.1 := upd_same _ _ _
    rw [hself, upd_same, hok.snap]
    exact Iff.rfl
  have hbeg : fstS X.src.2.1 X.src.2.2 (fun c => histV (X.hist c) (X.ses k).snap) (X.ses k) (F k) = none ↔ matL X F k = [] := by
    rw [fst_matL]
    exact Iff.rfl
  refine ⟨findP_set hf hok.num, rfl, ⟨by show (0 : Int) ≤ (((runX X F k n).1.1 : Nat) : Int); omega, by show (((runX X F k n).1.1 : Nat) : Int) ≤ (n : Int); omega⟩, fun h => ?_, rfl, ?_⟩
  · have h' : (runX X F k n).1.1 = 0 := by
      have : (((runX X F k n).1.1 : Nat) : Int) = 0 := h
      omega
    have := h0 h'
    rw [this]
    exact ⟨setSes_self X k, upd_self F k⟩
  · rcases hw with ⟨a, b⟩ | ⟨a, b, c⟩ | ⟨a, b, c⟩ | ⟨a, b, c⟩
    · exact .inl ⟨a, hend.mp b⟩
    · exact .inr (.inl ⟨a, by show (((runX X F k n).1.1 : Nat) : Int) = n; omega, fun h => c (hend.mpr h)⟩)
    · exact .inr (.inr (.inl ⟨a, by show (0 : Int) < (((runX X F k n).1.1 : Nat) : Int); omega, fun h => c (hbeg.mpr h)⟩))
    · exact .inr (.inr (.inr ⟨a, by show (((runX X F k n).1.1 : Nat) : Int) < n; omega, fun h => c (hend.mpr h)⟩))

end Go.Proofs.Ythlhbjnkohinmaa
