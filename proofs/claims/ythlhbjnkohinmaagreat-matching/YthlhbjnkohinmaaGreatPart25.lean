import Derived.Test.YthlhbjnkohinmaaGreatPart23
import Derived.Test.YthlhbjnkohinmaaGreatPart24
import Derived.Test.YthlhbjnkohinmaaGreatPart08
import Derived.Test.YthlhbjnkohinmaaGreatPart10
/- A pair's Matches: both sides tell the same. -/
namespace Go.Proofs.YthlhbjnkohinmaaGreat
open Go.RowKit

/-- What is known of rules that were read. -/
structure RulesOk (s : ByteArray) (R : List RuleP) : Prop where
  size : s.size ≤ 400
  nine : R.length ≤ 9
  ok : ∀ r ∈ R, RuleOk s r
  walk : ∀ r ∈ R, RulW s r
  five : ∀ k (h : k < R.length), R[k].2.1.length ≤ 5
  bound : ∀ r ∈ R, cdsBound s r.2.1 (fun _ => false) ≠ none
theorem read_rules {s : ByteArray} {R : List RuleP} (h : ReadAns s 0 0 (some R)) : RulesOk s R := by
  rcases h with ⟨_, h, _, _⟩ | ⟨_, _, _, _, h, _⟩ | ⟨_, _, _, _, _, _, h, _⟩ | ⟨_, _, _, _, _, _, _, h, _⟩ | ⟨R', j, h1, h2, h3, h4, _, _, h5⟩
  · cases h
  · cases h
  · cases h
  · cases h
  · cases h5
    have hok := (rls_cut h2 rfl).2
    have hl : R.length ≤ 9 := by
      by_cases hh : R.length ≤ 9
      · exact hh
      · have := (ov_len h3 9 (by omega)).2.2
        omega
    refine ⟨h1, hl, hok, fun r hr => ?_, fun k hk => (ov_len h3 k hk).1, fun r hr => ?_⟩
    · obtain ⟨k, hk, e⟩ := List.getElem_of_mem hr
      have h6 := h3 k hk
      have h7 := (ov_len h3 k hk).1
      rw [e] at h7
      refine ⟨cds_all (hok r hr).conds rfl, ?_, by omega⟩
      by_cases hp : patCount s r.2.1 ≤ 3
      · exact hp
      · refine absurd ⟨hk, .inr ?_⟩ h6
        rw [e]
        unfold overB
        simp
        omega
    · obtain ⟨k, hk, e⟩ := List.getElem_of_mem hr
      intro hb
      refine absurd ⟨hk, ?_⟩ (h4 k hk)
      rw [e]
      unfold unbB
      rw [hb]
theorem sawX_sort (X : PEng) (k : Nat) : FSort (sawX X k) := by
  unfold FSort sawX sawN
  refine List.Pairwise.filterMap _ (R := fun a b : Nat => a < b) ?_ List.pairwise_lt_range
  intro a a' h b hb b' hb'
  cases h1 : seenT (X.ses k) (fun c => histV (X.hist c) (X.ses k).snap) a with
  | none => rw [h1] at hb; cases hb
  | some p =>
    cases h2 : seenT (X.ses k) (fun c => histV (X.hist c) (X.ses k).snap) a' with
    | none => rw [h2] at hb'; cases hb'
    | some p' =>
      rw [h1] at hb
      rw [h2] at hb'
      simp only [Option.map_some, Option.some.injEq] at hb hb'
      rw [← hb, ← hb']
      exact h
theorem facts_saw {X : PEng} {E : Eng} {L : List (Nat × Ses)} (h : Sim X E L) {q : Nat × Ses} (hq : q ∈ L) : (factsN E.com q.2 60).map Value.string = fxCells (sawX X q.1) ∧ (factsN E.com q.2 60).length = (sawX X q.1).length := by
  have e : factsN E.com q.2 60 = (sawX X q.1).map fun p => factP p.1 p.2.1 := by
    unfold factsN sawX sawN
    rw [List.map_filterMap]
    apply filterMap_same
    intro c hc
    have hs := h.seen hq (by simpa using hc)
    rw [← seenT_one] at hs
    unfold factAt
    unfold toO at hs
    by_cases hv : (seesF E.com q.2 (cellT c)).1 < 0
    · rw [if_pos hv] at hs
      rw [if_neg (by omega)]
      cases hst : seenT (X.ses q.1) (fun c => histV (X.hist c) (X.ses q.1).snap) c with
      | none => rfl
      | some p => rw [hst] at hs; cases hs
    · rw [if_neg hv] at hs
      rw [if_pos (by omega)]
      cases hst : seenT (X.ses q.1) (fun c => histV (X.hist c) (X.ses q.1).snap) c with
      | none => rw [hst] at hs; cases hs
      | some p =>
        rw [hst] at hs
        simp only [Option.map_some, Option.some.injEq] at hs
        simp [factP_eq, hs]
  rw [e]
  exact ⟨by simp [fxCells], by simp⟩
theorem opN_all (s : ByteArray) (F : List PFact) (R : List RuleP) : opN s F R (fun _ => false) R.length = instN 0 s F R R.length := by
  unfold opN
  simp
/-- What Matches tells. -/
def matT (X : PEng) (k : Nat) : ByteArray := toldT (isort (ltI (wgt X.src.2.1 X.src.2.2)) (instN 0 X.src.2.1 (sawX X k) X.src.2.2 X.src.2.2.length))
def pmatF (X : PEng) (n : Int) : ByteArray × Int := match findP X n with
  | none => (ByteArray.empty, 6)
  | some k => (matT X k, 0)

theorem EngA.rules {r : Src} {y : Nat} {E : Eng} {w : World} {f : List Nat} (h : EngA (QR r) y E w f) : RulesOwn w 0 r.2.1 r.1.1 r.2.2 ∧ ∃ ra rc xs, RulAt y r.2.1 r.2.2 ra rc xs w := by
  obtain ⟨rv, cv, kv, ov, cs, ps, f1, f2, ⟨hb, rfl⟩, ⟨f3, f4, hq, _⟩, _⟩ := h
  obtain ⟨h1, h2⟩ := hq.now
  refine ⟨h1, ?_⟩
  obtain ⟨xs, h3, h4⟩ := h2
  obtain ⟨ra, rm, rc, rfl⟩ := own_slice h3
  have em := own_len h3
  subst em
  exact ⟨ra, rc, xs, by simp [World.cell?, hb], h3, h4⟩

set_option maxHeartbeats 1000000 in
theorem mat_prog {x y i : Nat} {X : PEng} {E : Eng} {f1 f2 : List Nat} {b : Int} {w : World} (hp : PEngA x X w f1) (hd : EngA (QR X.src) y E w f2) (hr : ReadAns X.src.2.1 0 0 (some X.src.2.2)) (hg : Good i (X, E)) (hi : i ≤ 4000000000000) :
    Calls Tryz.prog 31 #[.pointer (some ⟨x, 0, none⟩), .int .i64 b] w fun e w' => e = .returned (.tuple #[.string (pmatF X b).1, .int .i64 (pmatF X b).2]) ∧ w.grownBy w' none := by
  obtain ⟨kv, hk⟩ := hp
  have hR := read_rules hr
  have hhl := hg.2.hist
  unfold pmatF
  cases hf : findP X b with
  | none => exact pmatches_none x X kv b w hk.1 hf
  | some k =>
    have hk8 : k < 8 := by
      unfold findP at hf
      split at hf
      · cases hf
      · exact (numberedP_some hf).1
    have hmk : (X.ses k).mks = none := by
      obtain ⟨L, hs⟩ := hg.1
      rcases hs.find b with ⟨h1, _⟩ | ⟨j, hj, _, _, _, h1, _⟩
      · rw [h1] at hf; cases hf
      · rw [h1] at hf
        cases hf
        exact (hs.ses _ (List.getElem_mem hj)).mks
    have hcell : w.cell? ⟨x, 3 + k * 244 + 243, none⟩ = some (.slice none 0 0) := by
      have := (hk.1.ses k hk8).mks
      rw [hmk] at this
      exact this
    have := pmatches_some x X kv b k X.src.2.1 X.src.2.2 X.src.1.1 0 (fun _ => false) w hk.1 hk.rows (fun c _ => by have := hhl c; simp at this; omega) hf (hg.digs (by omega) hf) rfl hd.rules.1 hR.walk hR.nine (hid (fun j hj ii W hii hW => by
      obtain ⟨a1, a2⟩ := instR_mem (sawX_le X k) j (hR.walk _ (List.getElem_mem hj)) ii hii
      have h9 := hR.nine
      exact phas_none _ ii x (3 + k * 244 + 243) W (by omega) a1 (grown_cell hW hcell)))
    rw [opN_all] at this
    exact this

set_option maxHeartbeats 1000000 in
theorem mat_doc {y i : Nat} {X : PEng} {E : Eng} {f2 : List Nat} {b : Int} {w : World} (hd : EngA (QR X.src) y E w f2) (hr : ReadAns X.src.2.1 0 0 (some X.src.2.2)) (hg : Good i (X, E)) (hi : i ≤ 4000000000000) :
    Calls Tryz.prog 32 #[.pointer (some ⟨y, 0, none⟩), .int .i64 b] w fun e w' => e = .returned (.tuple #[.string (pmatF X b).1, .int .i64 (pmatF X b).2]) ∧ w.grownBy w' none := by
  have hR := read_rules hr
  have hwf := hg.wf (by omega)
  have hdg := fun k => hg.digs (n := b) (k := k) (by omega)
  have hbn := hg.2
  obtain ⟨⟨L, hs⟩, _⟩ := hg
  unfold pmatF
  rcases hs.find b with ⟨h1, _, h3⟩ | ⟨j, hj, hj2, ej, _, h1, _, h3⟩
  · rw [h1]
    exact rmatches_none _ y E f2 b w hd hwf h3
  · rw [h1]
    have hq := List.getElem_mem hj
    obtain ⟨ra, rc, xs, hA⟩ := hd.rules.2
    have hFO : FOk (sawX X L[j].1) := fun q hq => ⟨(sawX_mem hq).1, hdg _ h1 q.1 q.2.1 (sawX_mem hq).1 (sawX_mem hq).2⟩
    have hFl := sawX_le X L[j].1
    have hsn := hs.snap _ hq
    have hz : instN (-1) X.src.2.1 (sawX X L[j].1) X.src.2.2 X.src.2.2.length = instN 0 X.src.2.1 (sawX X L[j].1) X.src.2.2 X.src.2.2.length := instN_z (fun r hr => (hR.walk r hr).conds) hR.bound _ (Nat.le_refl _)
    have hin := instN_ok hFO hFl hR.walk hR.nine
    obtain ⟨hso, hrl⟩ := instN_sort (sawX_sort X L[j].1) hFO hFl (fun r hr => (hR.walk r hr).conds) X.src.2.2.length (Nat.le_refl _)
    have hle := instN_le hFl hR.walk X.src.2.2.length (Nat.le_refl _)
    have h9 := hR.nine
    have hmem : ∀ ii ∈ instN 0 X.src.2.1 (sawX X L[j].1) X.src.2.2 X.src.2.2.length, ∀ p ∈ ii.facts, p ∈ sawX X L[j].1 := by
      intro ii hii
      unfold instN at hii
      obtain ⟨k, _, hm⟩ := List.mem_flatMap.mp hii
      exact (instK_ok hFO k _ ii hm).facts
    have hk : SeeOk E.com L[j].2 := by
      have hS : L[j].2 ∈ E.opn := by rw [← ej]; exact List.getElem_mem hj2
      have c1 := hbn.comLen
      simp only at c1
      exact ⟨hsn.1, hsn.2, by omega, fun l hl => by have := hwf.comEach l hl; omega, hwf.wrLen _ hS⟩
    show Calls Tryz.prog _ _ w fun e w' => e = .returned (.tuple #[.string (matT X L[j].1), .int .i64 0]) ∧ w.grownBy w' none
    unfold matT
    refine rmatches_some _ y E f2 b L[j].2 _ w hd hwf h3 (fun ii hii => ?_) (by rw [isort_len]; omega) (hid (fun p a cp cs fc fp hE => ?_))
    · have := hin ii (isort_mem.mp hii)
      exact ⟨by omega, this.2.1⟩
    · rw [isort_len]
      refine ready_loop y E.com L[j].2 p a cp cs fc fp X.src.2.1 X.src.2.2 ra rc xs (sawX X L[j].1) _ (ltI (wgt X.src.2.1 X.src.2.2)) w hE hA hk (hs.ses _ hq).fired ?_ ?_ (ltI_weak _) (by omega) (fun ii hii => ?_) ?_
      · refine hid ?_
        have := facts_any y E.com L[j].2 p a cp cs fc fp w hE hsn.1 hsn.2 (by have := hk.comLen; omega) hk.each hk.wrLen (fun c => (hwf.sees (by rw [← ej]; exact List.getElem_mem hj2) c).2)
        obtain ⟨e1, e2⟩ := facts_saw hs hq
        rw [e1, e2] at this
        exact this
      · refine hid (fun fa fcp W hW hfr => ?_)
        have hAW := hA.kept hW
        have := all_any X.src.2.1 X.src.2.2 (sawX X L[j].1) ra fa rc fcp xs W hR.size hR.ok hR.nine hR.five hFO hFl hAW.row hAW.parts hfr
        rw [hz] at this
        exact this
      · have a1 := hin ii hii
        have a2 := hrl ii hii
        exact ⟨by omega, a2, by omega⟩
      · intro k hk1 ii hk2 hik
        have hp := List.pairwise_iff_getElem.mp hso ii k hk2 hk1 hik
        obtain ⟨t1, t2⟩ := lat_phi hs hq (hmem _ (List.getElem_mem hk1))
        obtain ⟨u1, u2⟩ := lat_phi hs hq (hmem _ (List.getElem_mem hk2))
        rw [t2, u2]
        refine ahead_same hsn.1 hsn.2 t1 u1 _ _ _ _ _ ⟨fun hne => ?_, fun he => ?_⟩
        · rcases hp with hp | ⟨hp, _⟩ <;> omega
        · rcases hp with hp | ⟨_, hp⟩
          · omega
          · rw [slt_facts]
            exact bl_asym _ _ hp

end Go.Proofs.YthlhbjnkohinmaaGreat

/- A pair's Matches; the statements' world: a step that matches. -/
namespace Go.Proofs.YthlhbjnkohinmaaGreat
open Go.RowKit

set_option maxRecDepth 20000 in
set_option maxHeartbeats 2000000 in
theorem pair_matches (g x y : Nat) (X : PEng) (E : Eng) (f1 f2 : List Nat) (i : Nat) (a b c : Int) (s : ByteArray) (w : World) (h : Start g x y X E f1 f2 i w) :
    Calls Tryz.prog 15 #[.pointer (some ⟨g, 0, none⟩), stepV 8 a b c s] w fun e w' => e = .returned (.bool true) ∧ PairTo g i (g :: (f1 ++ f2)) w w' := by
  obtain ⟨hg1, hg2, hd12, hn1, hn2, hl1, hl2⟩ := h.apart
  have HPC : Hid (∀ W, Fr [] w W → Calls Tryz.prog 31 #[.pointer (some ⟨x, 0, none⟩), .int .i64 b] W fun e w' => e = .returned (.tuple #[.string (pmatF X b).1, .int .i64 (pmatF X b).2]) ∧ Fr [] W w') := hid (by
    intro W hW
    have hp := h.pair.grown hW
    refine (mat_prog hp.prog hp.doc hp.read h.good h.small).mono ?_
    rintro e w' ⟨rfl, hg⟩
    exact ⟨rfl, fr_none hg⟩)
  have HDC : Hid (∀ W, Fr [] w W → Calls Tryz.prog 32 #[.pointer (some ⟨y, 0, none⟩), .int .i64 b] W fun e w' => e = .returned (.tuple #[.string (pmatF X b).1, .int .i64 (pmatF X b).2]) ∧ Fr [] W w') := hid (by
    intro W hW
    have hp := h.pair.grown hW
    refine (mat_doc hp.doc hp.read h.good h.small).mono ?_
    rintro e w' ⟨rfl, hg⟩
    exact ⟨rfl, fr_none hg⟩)
  have HFIN : Hid (∀ W, Fr [] w W → PairTo g i (g :: (f1 ++ f2)) w W) := hid (by
    intro W hW
    exact ⟨(X, E), ⟨_, ⟨g, x, y, f1, f2, rfl, h.pair.grown hW, rfl⟩, h.nodup, fun _ hx => .inl hx, hW.mono (fun k hk => by cases hk)⟩, h.good.mono (Nat.le_succ i)⟩)
  have c0 : w.cell? ⟨g, 0, none⟩ = some (.pointer (some ⟨x, 0, none⟩)) := by rw [cell_of_row _ _ _ _ _ _ h.pair.block]; rfl
  have c1 : w.cell? ⟨g, 1, none⟩ = some (.pointer (some ⟨y, 0, none⟩)) := by rw [cell_of_row _ _ _ _ _ _ h.pair.block]; rfl
  have hgl := lt_of_block h.pair.block
  have hgz : g ≠ w.heap.size := by omega
  obtain ⟨r1, hr1⟩ : ∃ r1, r1 = (pmatF X b).1 := ⟨_, rfl⟩
  obtain ⟨r2, hr2⟩ : ∃ r2, r2 = (pmatF X b).2 := ⟨_, rfl⟩
  rw [← hr1, ← hr2] at HPC HDC
  have q1 : (r1.toList == r1.toList) = true := by simp
  have q2 : (r2 == r2) = true := by simp
  clear h hr1 hr2 hd12 hl1 hl2
  go_enter Tryz.func15, Tryz.ntmps15
  go_wp2_with fail
  go_region_held3 (fun W => W.cell? ⟨g, 0, none⟩ = some (.pointer (some ⟨x, 0, none⟩)) ∧ W.cell? ⟨w.heap.size, 2, none⟩ = some (.int .i64 b)) (first | go_keep | (exact ⟨k0, k2⟩)) (first
      | (go_at_call 31
         refine (HPC.out _ (fr_drew (fr_alloc w _))).mono ?_
         rintro e w1 ⟨rfl, hfr⟩
         have HT := hid ((fr_drew (fr_alloc w (stepC 8 a b c s))).trans hfr)
         have k0 := keepc hfr (keep0 (fr_drew (fr_alloc w _)) c0) (by simp)
         have k1 := keepc hfr (keep0 (fr_drew (fr_alloc w _)) c1) (by simp)
         have k2 := keepc hfr (keep0 (fr_drew (Fr.refl _ _)) (cell_new (w := w) (cs := #[.int .i64 8, .int .i64 a, .int .i64 b, .int .i64 c, .string s]) (t := 30) (j := 2) rfl)) (by simp)
         clear hfr))
  go_wp2_with fail
  go_region_held3 (fun W => W.cell? ⟨g, 1, none⟩ = some (.pointer (some ⟨y, 0, none⟩)) ∧ W.cell? ⟨w.heap.size, 2, none⟩ = some (.int .i64 b)) (first | go_keep | (exact ⟨m1, m2⟩)) (first
      | (go_at_call 32
         refine (HDC.out _ (fr_drew HT.out)).mono ?_
         rintro e w2 ⟨rfl, hfr⟩
         have HT2 := hid ((fr_drew HT.out).trans hfr)
         have m1 := keepc hfr (keep0 (fr_drew (Fr.refl _ _)) k1) (by simp)
         have m2 := keepc hfr (keep0 (fr_drew (Fr.refl _ _)) k2) (by simp)
         clear hfr))
  go_wp2_with (go_at_call 18; refine (num_any _ _).mono ?_; rintro e w' ⟨rfl, rfl⟩)
  go_ret
  exact ⟨rfl, HFIN.out _ HT2.out⟩

set_option maxRecDepth 20000 in
set_option maxHeartbeats 2000000 in
theorem step_eight (bw i : Nat) (Ps : List (PEng × Eng)) (f : List Nat) (a b c : Int) (s : ByteArray) (w : World) (hI : WorldA bw Ps w f) (hn : f.Nodup) (hg : ∀ q ∈ Ps, Good i q) (hi : i ≤ 4000000000000) (hl : (Ps.length + 1) * 8 ≤ 140737488355328) (ha : -9223372036854775808 ≤ a) (ha2 : a ≤ 9223372036854775807)
    (_hlate : LateIs Ps 8 a false) :
    Calls Tryz.prog 10 #[.pointer (some ⟨bw, 0, none⟩), stepV 8 a b c s] w fun e w' => e = .returned (.bool true) ∧ WTo bw i Ps.length f w w' := by
  by_cases hm : Ps = []
  · have HS : Hid (∀ w', Fr [] w w' → WTo bw i Ps.length f w w') := hid (fun w' hw => WTo.same hI hn hg hw)
    obtain ⟨v, ps, f2, f3, h1, h2, h3, rfl⟩ := hI
    obtain ⟨av, mv, cv, rfl⟩ := own_slice h2.1
    have em := own_len h2.1
    have c0 := cell_of_one h1
    have hlb := lt_of_block h1
    have hzz : bw ≠ w.heap.size := by omega
    subst em
    have hl0 : Ps.length = 0 := by rw [hm]; rfl
    rw [hl0] at c0
    clear h1 h2 h3 hn hg hm hl0
    go_enter Tryz.func10, Tryz.ntmps10
    go_wp2
    go_ret
    exact ⟨rfl, HS.out _ (fr_alloc w _)⟩
  · have hpos : 0 < Ps.length := List.length_pos_iff.mpr hm
    have hr := pickN_lt a hpos
    obtain ⟨v, ps, h1, h2, g, x, y, f1, f2, hpr, hst, hgo⟩ := WorldA.at hI hn hg hr hi
    obtain ⟨av, mv, cv', rfl⟩ := own_slice h2
    have em := own_len h2
    subst em
    have c0 := cell_of_one h1
    have hlb := lt_of_block h1
    have hzz : bw ≠ w.heap.size := by omega
    have hm' : ((Ps.length : Int) == 0) = false := by simp; exact hm
    have HPK := hid (fun W => pick_any a Ps.length W ha ha2 hpos (by omega))
    rw [← pickN_eq a hpos] at HPK
    obtain ⟨gr, rfl, _, hgb, hgl, hcell⟩ := own_cell h2 hpos
    have d0 := hcell _ _ hpr
    have z1 : gr ≠ w.heap.size := by omega
    have HPS := hid (fun W (hW : Fr [] w W) => pair_matches g x y _ _ f1 f2 i a b c s W (hst.grown hW))
    have HGO := hid hgo
    obtain ⟨pn, hpn⟩ : ∃ pn, pn = pickN a Ps.length := ⟨_, rfl⟩
    rw [← hpn] at d0 HPK hr
    clear hcell h1 h2 hst hgo hpn hm hI hg hn hpr
    go_enter Tryz.func10, Tryz.ntmps10
    go_wp2_with fail
    go_quiet ((go_at_call 13; exact Calls.quiet_of_same (HPK.out _)))
    go_wp2_with fail
    go_at_call 15
    refine (HPS.out _ ((fr_alloc w _).drewN _)).mono ?_
    rintro e w1 ⟨rfl, hp⟩
    have HP := hid hp
    clear hp
    go_wp2
    go_ret
    exact ⟨rfl, HGO.out _ _ ((fr_alloc w _).drewN _) HP.out⟩

theorem stepOk_eight : StepOk 8 := by
  intro bw i Ps f k a b c s w h1 h2 h3 h4 h5 h6 h7 h8 h9 h10 h11
  by_cases hk : k = 8
  · subst hk
    exact step_eight bw i Ps f a b c s w h1 h2 h3 h4 h5 h6 h7 h11
  · exact stepOk_seven bw i Ps f k a b c s w h1 h2 h3 h4 h5 h6 h7 h8 h9 (by omega) h11

end Go.Proofs.YthlhbjnkohinmaaGreat
