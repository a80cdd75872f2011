import Derived.Test.YthlhbjnkohinmaaGreatPart22
import Derived.Test.YthlhbjnkohinmaaGreatPart20
/- The program's Matches. -/
namespace Go.Proofs.YthlhbjnkohinmaaGreat
open Go.RowKit

theorem pordered_own (wt : Nat → Int) (l : List In) (v : Value) (B : Nat) (w : World) (hl : l.length ≤ 2160000) (h : w.ownsRow B 176 24 v l.length (insW wt l)) :
    Calls Tryz.prog 61 #[v] w fun e w' => ∃ a c, e = .returned (.slice a (isort (ltI wt) l).length c) ∧ (0 < (isort (ltI wt) l).length → ∃ g o, a = some ⟨g, o, none⟩ ∧ g < w'.heap.size ∧ w'.rangeAt g o (insW wt (isort (ltI wt) l))) ∧ w.grownBy w' none := by
  obtain ⟨a, m, c, rfl⟩ := own_slice h
  have em := own_len h
  subst em
  rw [isort_len]
  by_cases hz : l.length = 0
  · rw [hz]
    refine (pordered_none c a w).mono ?_
    rintro e w' ⟨rfl, rfl⟩
    exact ⟨a, c, rfl, fun h => by omega, grown_refl _ _⟩
  · have hcap := own_cap h
    obtain ⟨g, rfl, _, _, hgl, hcell⟩ := own_cell h (by omega)
    refine (pordered_any wt l.length l g 0 c w rfl hl (by omega) hcap hgl (fun j v hv => by rw [Nat.zero_add]; exact hcell j v hv)).mono ?_
    rintro e w' ⟨g', o', c', rfl, _, h2, h3, h4⟩
    exact ⟨_, c', rfl, fun _ => ⟨g', o', rfl, h2, h3⟩, h4⟩

theorem instK_ok {z : Int} {s : ByteArray} {F : List PFact} (hF : FOk F) (r : Nat) (L : List Nat) : ∀ i ∈ instR z s F r L, InOk F i := by
  have key : ∀ (L : List Nat) (l : List In), (∀ i ∈ l, InOk F i) → ∀ i ∈ L.foldl (onC z s F) l, InOk F i := by
    intro L
    induction L with
    | nil => intro l h; exact h
    | cons p L ih => intro l h; exact ih _ (onC_ok hF h p)
  unfold instR
  refine key L _ (fun i hi => ?_)
  simp at hi
  subst hi
  exact start_ok F r
theorem instN_ok {s : ByteArray} {F : List PFact} (hF : FOk F) (hFl : F.length ≤ 60) {R : List RuleP} (hR : ∀ r ∈ R, RulW s r) (hR9 : R.length ≤ 9) : ∀ i ∈ instN 0 s F R R.length, i.facts.length ≤ 3 ∧ i.rule ≤ 9 ∧ ∀ q ∈ i.facts, q.1 < 60 ∧ 0 ≤ q.2.1 ∧ q.2.1 ≤ 9 := by
  intro i hi
  unfold instN at hi
  obtain ⟨k, hk, hm⟩ := List.mem_flatMap.mp hi
  have hk' : k < R.length := by simpa using hk
  have e : R.getD k (0, [], []) = R[k] := by simp [List.getD, List.getElem?_eq_getElem hk']
  rw [e] at hm
  obtain ⟨h1, h2⟩ := instR_mem hFl k (hR _ (List.getElem_mem hk')) i hm
  exact ⟨h1, by omega, fun q hq => hF q ((instK_ok hF k _ i hm).facts q hq)⟩

set_option maxRecDepth 20000 in
set_option maxHeartbeats 2000000 in
theorem pmatches_some (x : Nat) (X : PEng) (kv : Nat → Value) (n : Int) (k : Nat) (s : ByteArray) (R : List RuleP) (rv : Value) (B : Nat) (fd : In → Bool) (w : World) (h : PAt w x X kv) (hR : HRows w X kv) (hl : ∀ c, c < 60 → (X.hist c).length ≤ 9223372036854775807) (hf : findP X n = some k) (hd : Digs (seenP X k))
    (hsrc : X.src.1.1 = rv) (hrl : RulesOwn w B s rv R) (hRW : ∀ r ∈ R, RulW s r) (hR9 : R.length ≤ 9)
    (HHAS : Hid (∀ (j : Nat) (hj : j < R.length) (i : In) (W : World), i ∈ instR 0 s (sawX X k) j R[j].2.1 → w.grownBy W none → Calls Tryz.prog 89 #[.pointer (some ⟨x, 3 + k * 244 + 243, none⟩), .agg (inCells (wgt s R j) i).toArray] W fun e w' => e = .returned (.bool (fd i)) ∧ W.grownBy w' none)) :
    Calls Tryz.prog 31 #[.pointer (some ⟨x, 0, none⟩), .int .i64 n] w fun e w' => e = .returned (.tuple #[.string (toldT (isort (ltI (wgt s R)) (opN s (sawX X k) R fd R.length))), .int .i64 0]) ∧ w.grownBy w' none := by
  have HF := hid (findp_any x X n w h.ses)
  rw [hf] at HF
  have hk : k < 8 := by
    unfold findP at hf
    split at hf
    · cases hf
    · exact (numberedP_some hf).1
  have HSE := hid (pseen_any x X kv k w hk h hR hl)
  have hFO : FOk (sawX X k) := fun q hq => ⟨(sawX_mem hq).1, hd q.1 q.2.1 (sawX_mem hq).1 (sawX_mem hq).2⟩
  have hFl := sawX_le X k
  have hc0 := h.rules
  rw [hsrc] at hc0
  have hxl := h.lt
  obtain ⟨F, hF⟩ : ∃ F, F = sawX X k := ⟨_, rfl⟩
  rw [← hF] at HSE HHAS hFO hFl ⊢
  obtain ⟨ra, rm, rc, rfl⟩ : ∃ a m c, rv = .slice a m c := by
    obtain ⟨xs, h1, _⟩ := hrl
    exact own_slice h1
  have erm : rm = R.length := by
    obtain ⟨xs, h1, _⟩ := hrl
    exact own_len h1
  subst erm
  have hrl' : ∀ W, w.grownBy W none → RulesOwn W B s (.slice ra R.length rc) R := fun W hW => by
    obtain ⟨xs, h1, h2⟩ := hrl
    exact ⟨xs, own_kept h1 hW (fun g hg => by cases hg), Parts_kept hW (fun g hg => by cases hg) R xs h2⟩
  have HOP : Hid (∀ (W : World) (fa : Option Addr) (fc B2 : Nat), w.grownBy W none → W.ownsRow B2 114 4 (.slice fa F.length fc) F.length (fcCells F) → Calls Tryz.prog 60 #[.slice ra R.length rc, .slice fa F.length fc, .pointer (some ⟨x, 3 + k * 244 + 243, none⟩)] W fun e w' => ∃ v, e = .returned v ∧ w'.ownsRow W.heap.size 176 24 v (opN s F R fd R.length).length (insW (wgt s R) (opN s F R fd R.length)) ∧ W.grownBy w' none) := hid (fun W fa fc B2 hW hfr =>
    popens_any s F R ra fa rc fc B B2 x (3 + k * 244 + 243) fd W hRW hR9 (hrl' W hW) hFl hfr (hid (fun j hj i W2 hi hW2 => HHAS.out j hj i W2 hi (grown_trans hW hW2))))
  have hOl : (opN s F R fd R.length).length ≤ 2160000 := by
    have h1 := instN_le hFl hRW R.length (Nat.le_refl _)
    have h2 := List.length_filter_le (fun i => !fd i) (instN 0 s F R R.length)
    unfold opN
    omega
  have hOk : ∀ i ∈ opN s F R fd R.length, i.facts.length ≤ 3 ∧ i.rule ≤ 9 ∧ ∀ q ∈ i.facts, q.1 < 60 ∧ 0 ≤ q.2.1 ∧ q.2.1 ≤ 9 := fun i hi => instN_ok hFO hFl hRW hR9 i (List.mem_filter.mp hi).1
  obtain ⟨O, hO⟩ : ∃ O, O = opN s F R fd R.length := ⟨_, rfl⟩
  rw [← hO] at HOP hOl hOk ⊢
  have HOR := hid (fun v B W => pordered_own (wgt s R) O v B W hOl)
  obtain ⟨M, hM⟩ : ∃ M, M = isort (ltI (wgt s R)) O := ⟨_, rfl⟩
  have HWR : Hid (∀ (a : Option Addr) (c : Nat) (W : World), (0 < M.length → ∃ g o, a = some ⟨g, o, none⟩ ∧ g < W.heap.size ∧ W.rangeAt g o (insW (wgt s R) M)) → Calls Tryz.prog 62 #[.slice a M.length c] W fun e w' => e = .returned (.string (toldT M)) ∧ W.grownBy w' none) := hid (fun a c W hr => by
    refine pwrite_any (wgt s R) M a c W (by rw [hM, isort_len]; exact hOl) (fun i hi => hOk i ?_) hr
    rw [hM] at hi
    exact isort_mem.mp hi)
  rw [← hM] at HOR ⊢
  have HC0 := hid hc0
  clear h hR hl hf hd hsrc hrl hrl' hRW hF hO hM hFO hOk hc0 HHAS
  go_enter Tryz.func31, Tryz.ntmps31
  go_wp2_with fail
  go_at_call 41
  refine HF.out.mono ?_
  rintro e w' ⟨rfl, rfl⟩
  simp only [placeV]
  go_wp2_with fail
  go_at_call 49
  refine HSE.out.mono ?_
  rintro e w1 ⟨v, rfl, hown, hg1⟩
  obtain ⟨a, m, c, rfl⟩ := own_slice hown
  have em := own_len hown
  subst em
  have HG1 := hid hg1
  have HOW := hid hown
  have hc1 := grown_cell hg1 HC0.out
  clear HSE hg1 hown HF
  go_wp2_with fail
  go_region_held3 (fun W => W.cell? ⟨x, 0, none⟩ = some (.slice ra R.length rc)) (first | go_keep | (exact grown_cell hg2 (by assumption))) (first
    | (go_at_call 60
       refine (HOP.out _ _ _ _ (grown_drewN HG1.out 1) (own_kept HOW.out (grown_drewN (grown_refl w1 none) 1) (fun g hg => by cases hg))).mono ?_
       rintro e w2 ⟨v2, rfl, ho2, hg2⟩
       have HO2 := hid ho2
       clear ho2))
  have HG2 : Hid (w'.grownBy w2 none) := hid (grown_trans HG1.out (grown_undrew (n := 1) hg2))
  clear hg2
  go_wp2_with fail
  go_at_call 61
  refine (HOR.out _ _ _ HO2.out).mono ?_
  rintro e w3 ⟨a3, c3, rfl, hr3, hg3⟩
  have HR3 := hid hr3
  have HG3 := hid hg3
  clear hr3 hg3
  go_wp2_with fail
  go_at_call 62
  refine (HWR.out _ _ _ HR3.out).mono ?_
  rintro e w4 ⟨rfl, hg4⟩
  have HG4 := hid hg4
  clear hg4
  go_wp2_with fail
  go_ret2
  exact ⟨rfl, grown_trans HG2.out (grown_trans HG3.out HG4.out)⟩
theorem pmatches_none (x : Nat) (X : PEng) (kv : Nat → Value) (n : Int) (w : World) (h : PAt w x X kv) (hf : findP X n = none) :
    Calls Tryz.prog 31 #[.pointer (some ⟨x, 0, none⟩), .int .i64 n] w fun e w' => e = .returned (.tuple #[.string ByteArray.empty, .int .i64 6]) ∧ w.grownBy w' none := by
  have HF := hid (findp_any x X n w h.ses)
  rw [hf] at HF
  clear h hf
  go_enter Tryz.func31, Tryz.ntmps31
  go_wp2_with fail
  go_at_call 41
  refine HF.out.mono ?_
  rintro e w' ⟨rfl, rfl⟩
  simp only [placeV]
  go_wp2
  go_ret2
  exact ⟨rfl, grown_refl _ _⟩

end Go.Proofs.YthlhbjnkohinmaaGreat

/- Plain: what an unbound variable counts as makes no difference, as none is asked. -/
namespace Go.Proofs.YthlhbjnkohinmaaGreat
open Go.RowKit

theorem opK_two {t : Int} (h : opK t = 2) : digB t = false ∧ opV t = t - 119 ∧ 119 ≤ t ∧ t ≠ 95 := by
  unfold opK at h
  unfold opV
  split at h
  · omega
  · rename_i hd
    split at h
    · rename_i hl
      refine ⟨by simpa using hd, by rw [if_neg hd, if_pos hl], ?_, ?_⟩
      · simp [letB] at hl; omega
      · intro e; subst e; simp [letB] at hl
    · omega
theorem goT_bound {e e' : Env} {t d : Int} (h : goT e t d = some e') : (∀ n, (e n).isSome = true → (e' n).isSome = true) ∧ (opK t = 2 → (e' (opV t).toNat).isSome = true) := by
  unfold goT at h
  split at h
  · rename_i h95
    cases h
    exact ⟨fun n hn => hn, fun hk => absurd h95 (opK_two hk).2.2.2⟩
  · split at h
    · rename_i hd
      split at h
      · cases h
        exact ⟨fun n hn => hn, fun hk => by have := (opK_two hk).1; rw [this] at hd; cases hd⟩
      · cases h
    · split at h
      · rename_i he
        cases h
        refine ⟨fun n hn => ?_, fun hk => ?_⟩
        · unfold upd
          split
          · rfl
          · exact hn
        · rw [(opK_two hk).2.1]
          simp [upd]
      · rename_i v hv
        split at h
        · cases h
          refine ⟨fun n hn => hn, fun hk => ?_⟩
          rw [(opK_two hk).2.1, hv]
          rfl
        · cases h
theorem goP_bound {e e' : Env} {c t1 t2 : Int} {q : PFact} (h : goP e c t1 t2 q = some e') : (∀ n, (e n).isSome = true → (e' n).isSome = true) ∧ (opK t1 = 2 → (e' (opV t1).toNat).isSome = true) ∧ (opK t2 = 2 → (e' (opV t2).toNat).isSome = true) := by
  unfold goP at h
  split at h
  · cases h1 : goT e t1 ((q.1 : Int) % 10) with
    | none => rw [h1] at h; cases h
    | some e1 =>
      rw [h1] at h
      have a1 := goT_bound h1
      have a2 := goT_bound (show goT e1 t2 q.2.1 = some e' from h)
      exact ⟨fun n hn => a2.1 n (a1.1 n hn), fun hk => a2.1 _ (a1.2 hk), a2.2⟩
  · cases h
theorem ofE_bound {e : Env} {t : Int} (hs : simB t = true) (h : opK t = 2 → (e (opV t).toNat).isSome = true) : ofE 0 e t = ofE (-1) e t := by
  unfold ofE
  split
  · rfl
  · rename_i hd
    have hk : opK t = 2 := by
      unfold opK
      rw [if_neg hd]
      have : letB t = true := by
        unfold simB at hs
        simpa [hd] using hs
      rw [if_pos this]
    have := h hk
    rw [(opK_two hk).2.1] at this
    obtain ⟨v, hv⟩ := Option.isSome_iff_exists.mp this
    rw [hv]
    rfl
theorem insK_bound {s : ByteArray} {F : List PFact} {r : Nat} {L : List Nat} (hL : ∀ p ∈ L, cdOk s p = true) (hb : cdsBound s L (fun _ => false) ≠ none) : ∀ k, k ≤ L.length → (L.take k).foldl (onC (-1) s F) [In.start r] = insK s F r L k ∧ ∃ bs, cdsBound s (L.take k) (fun _ => false) = some bs ∧ ∀ i ∈ insK s F r L k, ∀ n : Nat, bs n = true → (i.env n).isSome = true
  | 0, _ => by
    refine ⟨rfl, _, rfl, fun i _ n h => ?_⟩
    cases h
  | k + 1, hk => by
    obtain ⟨h1, bs, h2, h3⟩ := insK_bound hL hb k (by omega)
    have hlt : k < L.length := by omega
    have hok := hL _ (List.getElem_mem hlt)
    have hct := cdsBound_take hlt h2
    have hnn : cdsBound s (L.take (k + 1)) (fun _ => false) ≠ none := fun e => hb (cdsBound_none e)
    have e1 : (L.take (k + 1)).foldl (onC (-1) s F) [In.start r] = onC (-1) s F (insK s F r L k) L[k] := by
      rw [List.take_succ_eq_append_getElem hlt, List.foldl_append, h1]
      rfl
    rw [e1, insK_succ s F r L k hlt]
    by_cases h33 : bt s L[k] = 33
    · have hkd : (cdV s L[k]).k = 2 := (cdL_neg h33).2
      rw [if_neg (by omega)] at hct
      have hlk : cdLack s L[k] bs = false := by
        cases hc : cdLack s L[k] bs with
        | false => rfl
        | true => rw [hc] at hct; exact absurd hct hnn
      rw [hlk] at hct
      refine ⟨by unfold onC; rw [if_pos h33, if_pos h33], bs, by simpa using hct, fun i hi => ?_⟩
      unfold onC at hi
      rw [if_pos h33] at hi
      exact h3 i (List.mem_filter.mp hi).1
    · by_cases hc : clsB (bt s L[k]) = true
      · obtain ⟨_, hkd⟩ := cdL_pat hc
        have ecd : cdV s L[k] = patV 1 s L[k] := by simp [cdV, h33, hc]
        rw [if_pos hkd] at hct
        refine ⟨by unfold onC; rw [if_neg h33, if_pos hc, if_neg h33, if_pos hc], _, hct, fun i hi n hn => ?_⟩
        unfold onC at hi
        rw [if_neg h33, if_pos hc] at hi
        obtain ⟨j, hj, hm⟩ := List.mem_flatMap.mp hi
        unfold onP at hm
        obtain ⟨q, _, hq⟩ := List.mem_filterMap.mp hm
        cases hg : goP j.env (bt s L[k]) (bt s (L[k] + 1)) (bt s (L[k] + 2)) q with
        | none => rw [hg] at hq; cases hq
        | some e =>
          rw [hg] at hq
          simp only [Option.map_some, Option.some.injEq] at hq
          rw [← hq]
          obtain ⟨g1, g2, g3⟩ := goP_bound hg
          unfold cdAdd at hn
          rw [ecd] at hn
          have hn' : (bs n = true ∨ (opK (bt s (L[k] + 1)) = 2 ∧ (n : Int) = opV (bt s (L[k] + 1)))) ∨ (opK (bt s (L[k] + 2)) = 2 ∧ (n : Int) = opV (bt s (L[k] + 2))) := by
            simp [patV, addT] at hn
            rcases hn with (h | ⟨h1, h2⟩) | ⟨h1, h2⟩
            · exact .inl (.inl h)
            · exact .inl (.inr ⟨of_decide_eq_true h1, of_decide_eq_true h2⟩)
            · exact .inr ⟨of_decide_eq_true h1, of_decide_eq_true h2⟩
          rcases hn' with (hn | ⟨hk2, hv⟩) | ⟨hk2, hv⟩
          · exact g1 n (h3 j hj n hn)
          · have := g2 hk2
            rw [← hv] at this
            simpa using this
          · have := g3 hk2
            rw [← hv] at this
            simpa using this
      · have hcf : clsB (bt s L[k]) = false := by simpa using hc
        obtain ⟨_, hkd⟩ := cdL_tst h33 hcf
        obtain ⟨t1, _, t3⟩ := cdOk_tst hok h33 hcf
        have ecd : cdV s L[k] = tstV s L[k] := by simp [cdV, h33, hcf]
        rw [if_neg (by omega)] at hct
        have hlk : cdLack s L[k] bs = false := by
          cases hc : cdLack s L[k] bs with
          | false => rfl
          | true => rw [hc] at hct; exact absurd hct hnn
        rw [hlk] at hct
        have hlk3 := hlk
        unfold cdLack at hlk3
        rw [ecd] at hlk3
        have hlk2 : (opK (bt s L[k]) = 2 → bs (opV (bt s L[k])).toNat = true) ∧ (opK (bt s (L[k] + 2)) = 2 → bs (opV (bt s (L[k] + 2))).toNat = true) := by
          simp [tstV, lackT] at hlk3
          exact ⟨fun h => hlk3.1 (decide_eq_true h), fun h => hlk3.2 (decide_eq_true h)⟩
        refine ⟨?_, bs, by simpa using hct, fun i hi => ?_⟩
        · unfold onC
          rw [if_neg h33, if_neg hc, if_neg h33, if_neg hc]
          refine List.filter_congr fun i hi => ?_
          have hb3 := h3 i hi
          rw [ofE_bound t1 (fun hk2 => ?_), ofE_bound t3 (fun hk2 => ?_)]
          · exact hb3 _ (hlk2.2 hk2)
          · exact hb3 _ (hlk2.1 hk2)
        · unfold onC at hi
          rw [if_neg h33, if_neg hc] at hi
          exact h3 i (List.mem_filter.mp hi).1
theorem instR_z {s : ByteArray} {F : List PFact} {r : Nat} {L : List Nat} (hL : ∀ p ∈ L, cdOk s p = true) (hb : cdsBound s L (fun _ => false) ≠ none) : instR (-1) s F r L = instR 0 s F r L := by
  have := (insK_bound (F := F) (r := r) hL hb L.length (Nat.le_refl _)).1
  rw [List.take_length] at this
  rw [← insK_all]
  exact this
theorem instN_z {s : ByteArray} {F : List PFact} {R : List RuleP} (hL : ∀ r ∈ R, ∀ p ∈ r.2.1, cdOk s p = true) (hb : ∀ r ∈ R, cdsBound s r.2.1 (fun _ => false) ≠ none) : ∀ n, n ≤ R.length → instN (-1) s F R n = instN 0 s F R n
  | 0, _ => rfl
  | n + 1, hn => by
    have hlt : n < R.length := by omega
    have e : R.getD n (0, [], []) = R[n] := by simp [List.getD, List.getElem?_eq_getElem hlt]
    rw [instN_succ, instN_succ, instN_z hL hb n (by omega), e, instR_z (hL _ (List.getElem_mem hlt)) (hb _ (List.getElem_mem hlt))]

end Go.Proofs.YthlhbjnkohinmaaGreat
