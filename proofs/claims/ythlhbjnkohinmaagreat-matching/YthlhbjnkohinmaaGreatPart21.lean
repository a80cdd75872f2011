import Derived.Test.YthlhbjnkohinmaaGreatPart20
import Derived.Test.YthlhbjnkohinmaaGreatPart14
import Derived.Test.YthlhbjnkohinmaaGreatPart10
import Derived.Deep.RegionHeld3
/- The program's instantiations: those that are open. -/
namespace Go.Proofs.YthlhbjnkohinmaaGreat
open Go.RowKit

/-- The cells of instantiations of all rules. -/
def insW (wt : Nat → Int) (l : List In) : List Value := l.flatMap fun i => inCells (wt i.rule) i
theorem insW_app (wt : Nat → Int) (l m : List In) : insW wt (l ++ m) = insW wt l ++ insW wt m := by simp [insW]
theorem insW_one (wt : Nat → Int) (i : In) : insW wt [i] = inCells (wt i.rule) i := by simp [insW]
theorem own_kept_ne {w w' : World} {base : Nat} {e : TypeId} {size : Nat} {v : Value} {n : Nat} {xs : List Value} {row : Option Nat} (h : w.ownsRow base e size v n xs) (hg : w.grownBy w' row)
    (hne : ∀ g, v.ownBlock = some g → row ≠ some g) : w'.ownsRow base e size v n xs := by
  obtain ⟨h1, h2⟩ := h
  refine ⟨h1, ?_⟩
  rcases h2 with h2 | ⟨g, cap, cur, rfl, hb, hh, h3⟩
  · exact .inl h2
  · exact .inr ⟨g, cap, cur, rfl, hb, (hg.block g (lt_of_block hh) (fun e => hne g rfl e.symm)).trans hh, h3⟩
/-- What is open of the first k rules, and of the first j of the next one's. -/
def opN (s : ByteArray) (F : List PFact) (R : List RuleP) (fd : In → Bool) (k : Nat) : List In := (instN 0 s F R k).filter fun i => !fd i
def opJ (s : ByteArray) (F : List PFact) (R : List RuleP) (fd : In → Bool) (k : Nat) (IR : List In) (j : Nat) : List In := opN s F R fd k ++ (IR.take j).filter fun i => !fd i
theorem opJ_zero (s : ByteArray) (F : List PFact) (R : List RuleP) (fd : In → Bool) (k : Nat) (IR : List In) : opJ s F R fd k IR 0 = opN s F R fd k := by simp [opJ]
theorem opJ_succ (s : ByteArray) (F : List PFact) (R : List RuleP) (fd : In → Bool) (k : Nat) (IR : List In) (j : Nat) (hj : j < IR.length) : opJ s F R fd k IR (j + 1) = opJ s F R fd k IR j ++ (if fd IR[j] then [] else [IR[j]]) := by
  unfold opJ
  rw [pfilter_take _ _ _ hj, List.append_assoc]
  congr 2
  cases fd IR[j] <;> rfl
theorem opJ_all (s : ByteArray) (F : List PFact) (R : List RuleP) (fd : In → Bool) (k : Nat) (hk : k < R.length) : opJ s F R fd k (instR 0 s F k R[k].2.1) (instR 0 s F k R[k].2.1).length = opN s F R fd (k + 1) := by
  unfold opJ opN
  rw [List.take_length, instN_succ, List.filter_append]
  simp [List.getD, List.getElem?_eq_getElem hk]
/-- What a rule is, for the walk. -/
structure RulW (s : ByteArray) (r : RuleP) : Prop where
  conds : ∀ p ∈ r.2.1, cdOk s p = true
  pats : patCount s r.2.1 ≤ 3
  len : r.2.1.length ≤ 400
theorem instR_le {s : ByteArray} {F : List PFact} (hF : F.length ≤ 60) (k : Nat) {r : RuleP} (h : RulW s r) : (instR 0 s F k r.2.1).length ≤ 216000 := by
  rw [← insK_all]
  exact insK_le hF k h.conds h.pats _ (Nat.le_refl _)
theorem instR_mem {s : ByteArray} {F : List PFact} (hF : F.length ≤ 60) (k : Nat) {r : RuleP} (h : RulW s r) : ∀ i ∈ instR 0 s F k r.2.1, i.facts.length ≤ 3 ∧ i.rule = k := by
  rw [← insK_all]
  intro i hi
  have h1 := (insK_len hF k h.conds _ (Nat.le_refl _)).2 i hi
  have h2 := patCount_sub s r.2.1 r.2.1.length
  exact ⟨by have := h.pats; omega, h1.2⟩
theorem instN_le {s : ByteArray} {F : List PFact} (hF : F.length ≤ 60) {R : List RuleP} (hR : ∀ r ∈ R, RulW s r) : ∀ k, k ≤ R.length → (instN 0 s F R k).length ≤ k * 216000
  | 0, _ => by simp [instN]
  | k + 1, hk => by
    have hlt : k < R.length := by omega
    have h1 := instN_le hF hR k (by omega)
    have h2 := instR_le hF k (hR _ (List.getElem_mem hlt))
    have e : R.getD k (0, [], []) = R[k] := by simp [List.getD, List.getElem?_eq_getElem hlt]
    rw [instN_succ, e, List.length_append]
    omega
theorem opJ_le {s : ByteArray} {F : List PFact} (hF : F.length ≤ 60) {R : List RuleP} (hR : ∀ r ∈ R, RulW s r) (hR9 : R.length ≤ 9) (fd : In → Bool) (k : Nat) (hk : k < R.length) (j : Nat) : (opJ s F R fd k (instR 0 s F k R[k].2.1) j).length ≤ 2160000 := by
  unfold opJ opN
  have h1 := instN_le hF hR k (by omega)
  have h2 := instR_le hF k (hR _ (List.getElem_mem hk))
  have h3 := List.length_filter_le (fun i => !fd i) (instN 0 s F R k)
  have h4 := List.length_filter_le (fun i => !fd i) ((instR 0 s F k R[k].2.1).take j)
  have h5 := List.length_take_le' j (instR 0 s F k R[k].2.1)
  rw [List.length_append]
  omega
theorem insC_W {wt : Nat → Int} {k : Nat} : ∀ {l : List In}, (∀ i ∈ l, i.rule = k) → insC (wt k) l = insW wt l
  | [], _ => rfl
  | i :: l, h => by
    have h1 := insC_W (wt := wt) (k := k) (l := l) (fun j hj => h j (by simp [hj]))
    unfold insC insW at h1 ⊢
    rw [List.flatMap_cons, List.flatMap_cons, h1, h i (by simp)]

set_option maxRecDepth 20000 in
set_option maxHeartbeats 2000000 in
theorem popens_any (s : ByteArray) (F : List PFact) (R : List RuleP) (ra fa : Option Addr) (rc fc B B2 x o : Nat) (fd : In → Bool) (w : World) (hR : ∀ r ∈ R, RulW s r) (hR9 : R.length ≤ 9)
    (hrow : RulesOwn w B s (.slice ra R.length rc) R) (hFl : F.length ≤ 60) (hfr : w.ownsRow B2 114 4 (.slice fa F.length fc) F.length (fcCells F))
    (HHAS : Hid (∀ (k : Nat) (hk : k < R.length) (i : In) (W : World), i ∈ instR 0 s F k R[k].2.1 → w.grownBy W none → Calls Tryz.prog 89 #[.pointer (some ⟨x, o, none⟩), .agg (inCells (wgt s R k) i).toArray] W fun e w' => e = .returned (.bool (fd i)) ∧ W.grownBy w' none)) :
    Calls Tryz.prog 60 #[.slice ra R.length rc, .slice fa F.length fc, .pointer (some ⟨x, o, none⟩)] w fun e w' => ∃ v, e = .returned v ∧ w'.ownsRow w.heap.size 176 24 v (opN s F R fd R.length).length (insW (wgt s R) (opN s F R fd R.length)) ∧ w.grownBy w' none := by
  obtain ⟨i0, hi0, hz0, hz1, hz2⟩ := info_parts Tryz.infoI
  obtain ⟨xs0, hrow1, hpar⟩ := hrow
  have HROW := hid hrow1
  have HPAR := hid hpar
  have HFR := hid hfr
  have HR := hid hR
  clear hrow1 hpar hfr hR
  go_enter Tryz.func60, Tryz.ntmps60
  go_wp2_with fail
  go_loopw [7, 15] (fun t i wr => ∃ k : Nat, k ≤ R.length ∧ i = .int .i64 k ∧ wr.ownsRow w.heap.size 176 24 t (opN s F R fd k).length (insW (wgt s R) (opN s F R fd k)) ∧ w.grownBy wr none) (fun _ i _ => R.length - (intOf i).toNat)
  case atStart => exact ⟨0, by omega, rfl, World.ownsRow_nil _ _ _ _, grown_refl _ _⟩
  case round =>
    obtain ⟨k, hk, rfl, hown, hg⟩ := hrel
    have HG := hid hg
    have HOW := hid hown
    by_cases hlt : k < R.length
    · have hrw := HR.out _ (List.getElem_mem hlt)
      obtain ⟨a1, m1, c1, a2, m2, c2, x0, x1, x2, o1, o2⟩ := Parts_at R xs0 HPAR.out k hlt
      have em1 := own_len o1
      subst em1
      obtain ⟨gr, hra, _, _, hgr, hrcell⟩ := own_cell HROW.out (by omega)
      subst hra
      obtain ⟨wk, hwk⟩ : ∃ wk : Int, wk = bt s R[k].1 - 48 := ⟨_, rfl⟩
      have hwg : wgt s R k = wk := by rw [hwk]; simp [wgt, List.getD, List.getElem?_eq_getElem hlt]
      have d0 := grown_cell hg (hrcell _ _ x0)
      have d1 := grown_cell hg (hrcell _ _ x1)
      have d2 := grown_cell hg (hrcell _ _ x2)
      rw [← hwk] at d0
      obtain ⟨m1, hm1⟩ : ∃ m1, m1 = R[k].2.1.length := ⟨_, rfl⟩
      rw [← hm1] at d1
      obtain ⟨IR, hIR⟩ : ∃ IR, IR = instR 0 s F k R[k].2.1 := ⟨_, rfl⟩
      have HCO : Hid (∀ W, w.grownBy W none → Calls Tryz.prog 88 #[.int .i64 k, .agg #[.int .i64 wk, .slice a1 m1 c1, .slice a2 m2 c2], .slice fa F.length fc] W fun e w' => ∃ v, e = .returned v ∧ w'.ownsRow W.heap.size 176 24 v IR.length (insC wk IR) ∧ W.grownBy w' none) := hid (fun W hW => by
        rw [hIR, hm1]
        exact pcomplete_any s F k R[k].2.1 wk a1 a2 fa c1 m2 c2 fc B B2 W hrw.conds hrw.pats hrw.len (own_kept o1 hW (fun g hg => by cases hg)) hFl (own_kept HFR.out hW (fun g hg => by cases hg)))
      have HHK := hid (HHAS.out k hlt)
      rw [← hIR, hwg] at HHK
      have HIRL : IR.length ≤ 216000 := by rw [hIR]; exact instR_le hFl k hrw
      have HIRR : Hid (∀ i ∈ IR, i.rule = k) := hid (by rw [hIR]; exact fun i hi => (instR_mem hFl k hrw i hi).2)
      have HJS := hid (opJ_succ s F R fd k IR)
      have HJA : Hid (opJ s F R fd k IR IR.length = opN s F R fd (k + 1)) := hid (by rw [hIR]; exact opJ_all s F R fd k hlt)
      have HJL : Hid (∀ j, (opJ s F R fd k IR j).length ≤ 2160000) := hid (fun j => by rw [hIR]; exact opJ_le hFl HR.out hR9 fd k hlt j)
      have hsz := hg.size
      have hne : gr ≠ wr.heap.size := by omega
      have hgl : gr < wr.heap.size := by omega
      obtain ⟨a, m, cc, rfl⟩ := own_slice hown
      have em := own_len hown
      subst em
      have HST : Hid (∀ W, wr.grownBy W none → W.ownsRow w.heap.size 176 24 (.slice a (opN s F R fd k).length cc) (opJ s F R fd k IR 0).length (insW (wgt s R) (opJ s F R fd k IR 0))) := hid (fun W hW => by
        rw [opJ_zero]
        exact own_kept HOW.out hW (fun g hg => by cases hg))
      have HSL : Hid (∀ g, (Value.slice a (opN s F R fd k).length cc).ownBlock = some g → g < wr.heap.size) := hid (fun g hg => (HOW.out.lt g hg).2)
      have HWGT := hid hwg
      obtain ⟨n0, hn0⟩ : ∃ n0, n0 = (opN s F R fd k).length := ⟨_, rfl⟩
      rw [← hn0] at HST HSL ⊢
      clear hn0 hIR hm1 hwk hwg x0 x1 x2 o1 o2 hrcell hrw hown hg HOW
      go_wp2_with fail
      go_at_call 88
      refine (HCO.out _ (grown_trans HG.out (grown_alloc (grown_refl _ _) _))).mono ?_
      rintro e w1 ⟨ov, rfl, hov, hg1⟩
      have HW1 : Hid (wr.grownBy w1 none) := hid (grown_trans (grown_alloc (grown_refl _ _) _) hg1)
      obtain ⟨oa, om, oc, rfl⟩ := own_slice hov
      have eom := own_len hov
      subst eom
      have HOV := hid hov
      have hobs : ∀ g, (Value.slice oa IR.length oc).ownBlock = some g → wr.heap.size < g ∧ g < w1.heap.size := fun g hgg => by
        have := hov.lt g hgg
        simp at this
        omega
      have HOBS := hid hobs
      have hszw := HW1.out.size
      clear hov hg1 hobs HCO
      go_wp2_with fail
      go_loopw [7, 26] (fun t i wr2 => ∃ j : Nat, j ≤ IR.length ∧ i = .int .i64 j ∧ wr2.ownsRow w.heap.size 176 24 t (opJ s F R fd k IR j).length (insW (wgt s R) (opJ s F R fd k IR j)) ∧ w.grownBy wr2 none ∧ wr2.ownsRow 0 176 24 (.slice oa IR.length oc) IR.length (insC wk IR) ∧ w1.heap.size ≤ wr2.heap.size ∧ (∀ g, (Value.slice oa IR.length oc).ownBlock = some g → t.ownBlock ≠ some g)) (fun _ i _ => IR.length - (intOf i).toNat)
      case atStart => exact ⟨0, by omega, rfl, HST.out _ HW1.out, grown_trans HG.out HW1.out, own_mono HOV.out (by omega), Nat.le_refl _, fun g hg1 hg2 => by
        have q1 := (HOBS.out g hg1).1
        have q2 := HSL.out g hg2
        omega⟩
      case round =>
        rename World => wr2
        obtain ⟨j, hj, rfl, hown, hg2, hor, hsw, hnb⟩ := hrel
        have HG2 := hid hg2
        have HOW2 := hid hown
        have HNB := hid hnb
        have HOR := hid hor
        obtain ⟨ta, tm, tc, rfl⟩ := own_slice hown
        have em2 := own_len hown
        subst em2
        by_cases hltj : j < IR.length
        · obtain ⟨go, hoa, _, _, hgol, hocell⟩ := own_cell hor (by omega)
          subst hoa
          obtain ⟨L, hL⟩ : ∃ L, L = inCells wk IR[j] := ⟨_, rfl⟩
          have HRG : Hid (wr2.rangeAt go (j * 24) L) := hid (by rw [hL]; exact row_range (inCells_len wk) hocell hltj)
          have hLl : L.length = 24 := by rw [hL]; rfl
          have HIL : Hid ((Tryz.prog.info? 176).map (·.size) = some L.length) := hid (by rw [hLl]; exact info_inst)
          have HIZ : Hid ((Tryz.prog.info? 176).map (fun i => (i.zero, i.size)) = some (some (.agg #[.int .i64 0, .int .i64 0, .int .i64 0, .int .i64 0, .int .i64 0, .int .i64 0, .int .i64 0, .int .i64 0, .int .i64 0, .int .i64 0, .int .i64 0, .int .i64 0, .int .i64 0, .int .i64 0, .int .i64 0, .int .i64 0, .bool false, .bool false, .bool false, .bool false, .int .i64 0, .int .i64 0, .int .i64 0, .int .i64 0]), L.length)) := hid (by rw [hLl]; kernel_rfl)
          have HON : Hid (∀ u ∈ L, u.oneCell' = true) := hid (by rw [hL]; exact inCells_one _ _)
          have HONA : Hid (L.toArray.all (·.oneCell') = true) := hid (all_oneCell_toArray HON.out)
          have HRL : Hid ((wr2.alloc (.cells L.toArray 176)).rangeAt wr2.heap.size 0 L) := hid (range_of_blk (heap_alloc_new wr2 _) rfl)
          have HCA := hid (fun W => HHK.out IR[j] W (List.getElem_mem hltj))
          rw [← hL] at HCA
          have HSJ := hid (HJS.out j hltj)
          have hlen := HJL.out j
          have hsz2 := hg2.size
          have HLT := hid (fun g hg => (HOW2.out.lt g hg).1)
          have HOWG : Hid (∀ W, wr2.grownBy W none → W.ownsRow w.heap.size 176 24 (.slice ta (opJ s F R fd k IR j).length tc) (opJ s F R fd k IR j).length (insW (wgt s R) (opJ s F R fd k IR j))) := hid (fun W hW => own_kept HOW2.out hW (fun g hg => by cases hg))
          have HORG : Hid (∀ W, wr2.grownBy W none → W.ownsRow 0 176 24 (.slice (some ⟨go, 0, none⟩) IR.length oc) IR.length (insC wk IR)) := hid (fun W hW => own_kept HOR.out hW (fun g hg => by cases hg))
          obtain ⟨ok, hok⟩ : ∃ ok, ok = fd IR[j] := ⟨_, rfl⟩
          rw [← hok] at HCA HSJ
          have HFIN : Hid (ok = false → ∀ (w3 : World) (v' : Value), w3.ownsRow w.heap.size 176 24 v' ((opJ s F R fd k IR j).length + 1) (insW (wgt s R) (opJ s F R fd k IR j) ++ L) → w3.ownsRow w.heap.size 176 24 v' (opJ s F R fd k IR (j + 1)).length (insW (wgt s R) (opJ s F R fd k IR (j + 1)))) := hid (fun e w3 v' h => by
            rw [HSJ.out, e, if_neg (by simp), insW_app, insW_one, List.length_append, HIRR.out _ (List.getElem_mem hltj), HWGT.out, ← hL]
            exact h)
          have HSKIP : Hid (ok = true → opJ s F R fd k IR (j + 1) = opJ s F R fd k IR j) := hid (fun e => by rw [HSJ.out, e]; simp)
          obtain ⟨nl, hnl⟩ : ∃ nl, nl = (opJ s F R fd k IR j).length := ⟨_, rfl⟩
          obtain ⟨xs, hxs⟩ : ∃ xs, xs = insW (wgt s R) (opJ s F R fd k IR j) := ⟨_, rfl⟩
          rw [← hnl] at HFIN HOWG HOW2 HLT HNB hlen ⊢
          rw [← hxs] at HFIN HOWG HOW2
          have HNL := hid hnl
          have HXS := hid hxs
          have hneo : go ≠ wr2.heap.size := by omega
          clear hnl hxs HSJ hL hok hown hg2 hor hnb hocell HHK HJS HJL
          go_wp2_with (first
            | (refine wpList_load_mid rfl 176 (.tmp 28) rfl go (j * 24) rfl L _ HRG.out Tryz.underlying176 rfl HIL.out ?_)
            | (refine wpList_store_new rfl 176 (.tmp 12) (.tmp 29) rfl _ L rfl rfl hLl.symm HIL.out HONA.out ?_)
            | (refine wpList_load_mid rfl 176 (.tmp 12) rfl wr2.heap.size 0 rfl L _ HRL.out Tryz.underlying176 rfl HIL.out ?_))
          go_at_call 89
          refine (HCA.out _ (grown_trans HG2.out (grown_alloc (grown_refl _ _) _))).mono ?_
          rintro e w2 ⟨rfl, hg3⟩
          have HG3 := hid (grown_trans (grown_alloc (grown_refl wr2 none) (.cells L.toArray 176)) hg3)
          have HRL2 : Hid (w2.rangeAt wr2.heap.size 0 L) := hid (range_of_blk ((hg3.block _ (lt_of_block (heap_alloc_new wr2 _)) (by simp)).trans (heap_alloc_new wr2 _)) rfl)
          have how1 := HOWG.out _ (grown_alloc HG3.out (.cells L.toArray 176))
          have hszr : wr2.heap.size ≤ w2.heap.size := HG3.out.size
          clear hg3 HRG HRL HCA
          cases ok with
          | false =>
            have HFI := hid (HFIN.out rfl)
            clear HFIN HSKIP
            go_wp2_with (first
              | (refine wpList_load_mid rfl 176 (.tmp 12) rfl wr2.heap.size 0 rfl L _ HRL2.out Tryz.underlying176 rfl HIL.out ?_)
              | (refine wpList_build_one rfl 125 176 (.tmp 35) rfl _ L rfl Tryz.underlying125 HIZ.out (by omega) (by omega) ?_)
              | (at_builtin; refine wpList_append_own_at _ rfl (.tmp 34) (.tmp 36) 125 rfl (w.heap.size) 176 i0 (.agg #[.int .i64 0, .int .i64 0, .int .i64 0, .int .i64 0, .int .i64 0, .int .i64 0, .int .i64 0, .int .i64 0, .int .i64 0, .int .i64 0, .int .i64 0, .int .i64 0, .int .i64 0, .int .i64 0, .int .i64 0, .int .i64 0, .bool false, .bool false, .bool false, .bool false, .int .i64 0, .int .i64 0, .int .i64 0, .int .i64 0]) 24 168 Tryz.underlying125 hi0 hz0 hz1 hz2 rfl (by decide) _ _ _ rfl how1 _ 1 1 L rfl (by omega) (fun j u hj => news_at1 hj) HON.out (by unfold maxLen; omega) (by omega) (by simp; omega) ?_))
            intro v' w3 hown3 hg3 _ hpl
            have HO3 := hid (HFI.out _ _ hown3)
            have HGR3 : Hid (w.grownBy w3 none) := hid (grown_own2 (grown_trans HG2.out (grown_alloc HG3.out _)) hg3 HLT.out)
            have HOR3 : Hid (w3.ownsRow 0 176 24 (.slice (some ⟨go, 0, none⟩) IR.length oc) IR.length (insC wk IR)) := hid (own_kept_ne (HORG.out _ (grown_alloc HG3.out _)) hg3 (fun g hg e => HNB.out g hg e))
            have HS3 : Hid (w1.heap.size ≤ w3.heap.size) := hid (by have := hg3.size; simp at this; omega)
            have HN3 : Hid (∀ g, (Value.slice (some ⟨go, 0, none⟩) IR.length oc).ownBlock = some g → v'.ownBlock ≠ some g) := hid (fun g hg => by
              rcases hpl with h | h
              · rw [h]; exact HNB.out g hg
              · rw [h]
                have := (HOBS.out g hg).2
                simp
                omega)
            clear hown3 hg3 hpl
            go_wp2_with fail
            go_roundw
            case rel => exact ⟨j + 1, by omega, by go_num, HO3.out, HGR3.out, HOR3.out, HS3.out, HN3.out⟩
            case measure => simp [intOf]; omega
          | true =>
            have HSK := hid (HSKIP.out rfl)
            clear HFIN HSKIP how1
            go_wp2_with fail
            go_roundw
            case rel => exact ⟨j + 1, by omega, by go_num, by rw [HSK.out, ← HNL.out, ← HXS.out]; exact HOWG.out _ HG3.out, grown_trans HG2.out HG3.out, HORG.out _ HG3.out, by omega, HNB.out⟩
            case measure => simp [intOf]; omega
        · have ej : j = IR.length := by omega
          subst ej
          have HO2 : Hid (wr2.ownsRow w.heap.size 176 24 (.slice ta (opJ s F R fd k IR IR.length).length tc) (opN s F R fd (k + 1)).length (insW (wgt s R) (opN s F R fd (k + 1)))) := hid (by
            rw [← HJA.out]
            exact HOW2.out)
          clear hown hg2 hor hnb HHK HJS HJL HOW2
          go_wp2_with fail
          go_roundw
          case rel => exact ⟨k + 1, by omega, by go_num, HO2.out, HG2.out⟩
          case measure => simp [intOf]; omega
    · have hkl : k = R.length := by omega
      subst hkl
      clear hg hown
      go_wp2_with fail
      go_ret
      exact ⟨_, rfl, HOW.out, HG.out⟩

end Go.Proofs.YthlhbjnkohinmaaGreat

/- The program's instantiations: two lists merged. -/
namespace Go.Proofs.YthlhbjnkohinmaaGreat
open Go.RowKit

theorem slice_tail_run {P : Program} (w : World) (t e : TypeId) (ad : Option Addr) (n c i sz : Nat) (hu : P.underlying t = some (.slice e)) (hi : (P.info? e).map (·.size) = some sz) (h1 : i ≤ n) :
    (Instr.sliceAt t (.slice ad n c) (some (.int .i64 i)) none none).run P w = .ok (.slice (if c = i then ad else ad.map (·.add (i * sz))) (n - i) (c - i)) w := by
  cases hq : P.info? e with
  | none => simp [hq] at hi
  | some d =>
    simp [hq] at hi
    simp [Instr.sliceAt, Instr.slice, Instr.sliceBounds, Instr.sliceBound, underlying, sizeOf, typeInfo, hu, hq, hi, asIntOf]
    intro h
    omega
theorem wpList_slice_tail {P : Program} {ops : Array Oper} {rest : List Oper} {op : Oper} {a : Act} {w : World} {Q : Exit → Act → World → Prop} (hgd : op.guard = none) (t e : TypeId) (x y : Operand) (ho : op.op = .slice t x (some y) none none)
    (ad : Option Addr) (n c i sz : Nat) (hx : a.eval x = .slice ad n c) (hy : a.eval y = .int .i64 i) (h1 : i ≤ n) (hu : P.underlying t = some (.slice e)) (hi : (P.info? e).map (·.size) = some sz)
    (h : wpList P ops Q rest (a.put op.dst (.slice (if c = i then ad else ad.map (·.add (i * sz))) (n - i) (c - i))) w) : wpList P ops Q (op :: rest) a w :=
  wpList_plain hgd fun _ hK => by
    unfold Oper.wp execOp
    have := slice_tail_run (P := P) w t e ad n c i sz hu hi h1
    simp only [ho, hx, hy, Option.map_some, Option.map_none, Sem.run_bind, Sem.run_pure, this, Result.andThen_ok]
    exact hK _ _ h

/-- Which comes ahead. -/
def ltI (wt : Nat → Int) (a b : In) : Bool := ahB (wt a.rule) (latF a.facts) (wt b.rule) (latF b.facts)
theorem insW_at (wt : Nat → Int) {w : World} {g o : Nat} {l : List In} (h : w.rangeAt g o (insW wt l)) {k : Nat} (hk : k < l.length) : w.rangeAt g (o + k * 24) (inCells (wt l[k].rule) l[k]) := fun j v hv => by
  have := h _ v (rowf_at (f := fun i : In => inCells (wt i.rule) i) (m := 24) (fun _ => rfl) l k hk j v hv)
  rw [← Nat.add_assoc] at this
  exact this
theorem range_grown {w w' : World} {g o : Nat} {cs : List Value} (h : w.rangeAt g o cs) (hg : w.grownBy w' none) : w'.rangeAt g o cs := fun j v hv => grown_cell hg (h j v hv)
theorem insW_len (wt : Nat → Int) : ∀ l : List In, (insW wt l).length = l.length * 24
  | [] => rfl
  | i :: l => by
    have := insW_len wt l
    unfold insW at this ⊢
    rw [List.flatMap_cons, List.length_append, this, inCells_len, List.length_cons, Nat.add_mul]
    omega
theorem insW_drop (wt : Nat → Int) : ∀ (l : List In) (p : Nat), (insW wt l).drop (p * 24) = insW wt (l.drop p)
  | l, 0 => by simp
  | [], p + 1 => by simp [insW]
  | i :: l, p + 1 => by
    have := insW_drop wt l p
    unfold insW at this ⊢
    rw [List.flatMap_cons, List.drop_succ_cons, ← this, Nat.add_mul, List.drop_append, inCells_len, show p * 24 + 1 * 24 - 24 = p * 24 by omega, List.drop_eq_nil_of_le (by rw [inCells_len]; omega), List.nil_append]
theorem insW_ones (wt : Nat → Int) (l : List In) : ∀ u ∈ insW wt l, u.oneCell' = true := by
  intro u hu
  obtain ⟨i, _, hi⟩ := List.mem_flatMap.mp hu
  exact inCells_one _ _ u hi
/-- What lies behind the first p. -/
theorem tail_at (wt : Nat → Int) {w : World} {g o c : Nat} {l : List In} (h : w.rangeAt g o (insW wt l)) (hc : l.length ≤ c) {p : Nat} (hp : p ≤ l.length) : ∃ A, (if c = p then some (⟨g, o, none⟩ : Addr) else (some (⟨g, o, none⟩ : Addr)).map (·.add (p * 24))) = some A ∧ ∀ j u, (insW wt (l.drop p))[j]? = some u → w.cell? (A.add j) = some u := by
  have hadd : ∀ (b f n : Nat), (⟨b, f, none⟩ : Addr).add n = ⟨b, f + n, none⟩ := fun b f n => by unfold Addr.add; split <;> simp_all
  by_cases e : c = p
  · rw [if_pos e]
    refine ⟨_, rfl, fun j u hu => ?_⟩
    rw [List.drop_eq_nil_of_le (by omega)] at hu
    simp [insW] at hu
  · rw [if_neg e]
    refine ⟨_, rfl, fun j u hu => ?_⟩
    rw [← insW_drop, List.getElem?_drop] at hu
    show w.cell? ((Addr.add ⟨g, o, none⟩ (p * 24)).add j) = some u
    rw [hadd, hadd, Nat.add_assoc]
    exact h _ u hu

set_option maxRecDepth 20000 in
set_option maxHeartbeats 2000000 in
theorem pmerged_any (wt : Nat → Int) (l r : List In) (gl ol cl gr og cr : Nat) (w : World) (hl : l.length ≤ 2160000) (hr : r.length ≤ 2160000) (hcl : l.length ≤ cl) (hcr : r.length ≤ cr) (_hbl : gl < w.heap.size) (_hbr : gr < w.heap.size)
    (hL : w.rangeAt gl ol (insW wt l)) (hR : w.rangeAt gr og (insW wt r)) :
    Calls Tryz.prog 90 #[.slice (some ⟨gl, ol, none⟩) l.length cl, .slice (some ⟨gr, og, none⟩) r.length cr] w fun e w' => ∃ v, e = .returned v ∧ w'.ownsRow w.heap.size 176 24 v (mrg (ltI wt) l r).length (insW wt (mrg (ltI wt) l r)) ∧ w.grownBy w' none := by
  obtain ⟨i0, hi0, hz0, hz1, hz2⟩ := info_parts Tryz.infoI
  have HL := hid hL
  have HR := hid hR
  clear hL hR
  go_enter Tryz.func90, Tryz.ntmps90
  go_wp2_with fail
  go_loopw [5, 6, 7] (fun t il ir wr => ∃ (p q : Nat) (out : List In), p ≤ l.length ∧ q ≤ r.length ∧ il = .int .i64 p ∧ ir = .int .i64 q ∧ out ++ mrg (ltI wt) (l.drop p) (r.drop q) = mrg (ltI wt) l r ∧ out.length = p + q ∧ wr.ownsRow w.heap.size 176 24 t out.length (insW wt out) ∧ w.grownBy wr none) (fun _ il ir _ => l.length + r.length - ((intOf il).toNat + (intOf ir).toNat))
  case atStart => exact ⟨0, 0, [], by omega, by omega, rfl, rfl, by simp, rfl, World.ownsRow_nil _ _ _ _, grown_refl _ _⟩
  case round =>
    obtain ⟨p, q, out, hp, hq, rfl, rfl, hout, hol, hown, hg⟩ := hrel
    have HG := hid hg
    have HOW := hid hown
    have HOUT := hid hout
    have hsz := hg.size
    obtain ⟨a, m, cc, rfl⟩ := own_slice hown
    have em := own_len hown
    subst em
    have HLT := hid (fun g hg => (HOW.out.lt g hg).1)
    have HOWG : Hid (∀ W, wr.grownBy W none → W.ownsRow w.heap.size 176 24 (.slice a out.length cc) out.length (insW wt out)) := hid (fun W hW => own_kept HOW.out hW (fun g hg => by cases hg))
    by_cases hboth : p < l.length ∧ q < r.length
    · obtain ⟨hpl, hqr⟩ := hboth
      obtain ⟨AL, hAL⟩ : ∃ AL, AL = inCells (wt l[p].rule) l[p] := ⟨_, rfl⟩
      obtain ⟨BR, hBR⟩ : ∃ BR, BR = inCells (wt r[q].rule) r[q] := ⟨_, rfl⟩
      have hALl : AL.length = 24 := by rw [hAL]; rfl
      have hBRl : BR.length = 24 := by rw [hBR]; rfl
      have HRAL : Hid (wr.rangeAt gl (ol + p * 24) AL) := hid (by rw [hAL]; exact range_grown (insW_at wt HL.out hpl) hg)
      have HRBR : Hid (wr.rangeAt gr (og + q * 24) BR) := hid (by rw [hBR]; exact range_grown (insW_at wt HR.out hqr) hg)
      have HIAL : Hid ((Tryz.prog.info? 176).map (·.size) = some AL.length) := hid (by rw [hALl]; exact info_inst)
      have HIBR : Hid ((Tryz.prog.info? 176).map (·.size) = some BR.length) := hid (by rw [hBRl]; exact info_inst)
      have HZAL : Hid ((Tryz.prog.info? 176).map (fun i => (i.zero, i.size)) = some (some (.agg #[.int .i64 0, .int .i64 0, .int .i64 0, .int .i64 0, .int .i64 0, .int .i64 0, .int .i64 0, .int .i64 0, .int .i64 0, .int .i64 0, .int .i64 0, .int .i64 0, .int .i64 0, .int .i64 0, .int .i64 0, .int .i64 0, .bool false, .bool false, .bool false, .bool false, .int .i64 0, .int .i64 0, .int .i64 0, .int .i64 0]), AL.length)) := hid (by rw [hALl]; kernel_rfl)
      have HZBR : Hid ((Tryz.prog.info? 176).map (fun i => (i.zero, i.size)) = some (some (.agg #[.int .i64 0, .int .i64 0, .int .i64 0, .int .i64 0, .int .i64 0, .int .i64 0, .int .i64 0, .int .i64 0, .int .i64 0, .int .i64 0, .int .i64 0, .int .i64 0, .int .i64 0, .int .i64 0, .int .i64 0, .int .i64 0, .bool false, .bool false, .bool false, .bool false, .int .i64 0, .int .i64 0, .int .i64 0, .int .i64 0]), BR.length)) := hid (by rw [hBRl]; kernel_rfl)
      have HOAL : Hid (∀ u ∈ AL, u.oneCell' = true) := hid (by rw [hAL]; exact inCells_one _ _)
      have HOBR : Hid (∀ u ∈ BR, u.oneCell' = true) := hid (by rw [hBR]; exact inCells_one _ _)
      have HAH : Hid (∀ W, Calls Tryz.prog 114 #[.agg BR.toArray, .agg AL.toArray] W fun e w' => e = .returned (.bool (ltI wt r[q] l[p])) ∧ W.grownBy w' none) := hid (fun W => by
        rw [hAL, hBR]
        exact pahead_any _ _ r[q] l[p] W)
      have HM : Hid (mrg (ltI wt) (l.drop p) (r.drop q) = if ltI wt r[q] l[p] then r[q] :: mrg (ltI wt) (l.drop p) (r.drop (q + 1)) else l[p] :: mrg (ltI wt) (l.drop (p + 1)) (r.drop q)) := hid (by
        rw [List.drop_eq_getElem_cons hpl, List.drop_eq_getElem_cons hqr, mrg])
      obtain ⟨ok, hok⟩ : ∃ ok, ok = ltI wt r[q] l[p] := ⟨_, rfl⟩
      rw [← hok] at HAH HM
      have HNR : Hid (ok = true → (out ++ [r[q]]) ++ mrg (ltI wt) (l.drop p) (r.drop (q + 1)) = mrg (ltI wt) l r) := hid (fun e => by
        rw [← HOUT.out, HM.out, if_pos e]
        simp)
      have HNL : Hid (ok = false → (out ++ [l[p]]) ++ mrg (ltI wt) (l.drop (p + 1)) (r.drop q) = mrg (ltI wt) l r) := hid (fun e => by
        rw [← HOUT.out, HM.out, if_neg (by simp [e])]
        simp)
      have HWR : Hid (∀ (w3 : World) (v' : Value), w3.ownsRow w.heap.size 176 24 v' (out.length + 1) (insW wt out ++ BR) → w3.ownsRow w.heap.size 176 24 v' (out ++ [r[q]]).length (insW wt (out ++ [r[q]]))) := hid (fun w3 v' h => by
        rw [insW_app, insW_one, List.length_append, ← hBR]
        exact h)
      have HWL : Hid (∀ (w3 : World) (v' : Value), w3.ownsRow w.heap.size 176 24 v' (out.length + 1) (insW wt out ++ AL) → w3.ownsRow w.heap.size 176 24 v' (out ++ [l[p]]).length (insW wt (out ++ [l[p]]))) := hid (fun w3 v' h => by
        rw [insW_app, insW_one, List.length_append, ← hAL]
        exact h)
      obtain ⟨nl, hnl⟩ : ∃ nl, nl = out.length := ⟨_, rfl⟩
      obtain ⟨xs, hxs⟩ : ∃ xs, xs = insW wt out := ⟨_, rfl⟩
      rw [← hnl] at HOWG HOW HLT HWR HWL hol ⊢
      rw [← hxs] at HOWG HOW HWR HWL
      have HNLN := hid hnl
      have HOL := hid hol
      have hnb : nl ≤ 4320000 := by omega
      clear hol
      have p1 : (p : Int) < (l.length : Int) := by omega
      have q1 : (q : Int) < (r.length : Int) := by omega
      have p0 : (0 : Int) ≤ (p : Int) := by omega
      have q0 : (0 : Int) ≤ (q : Int) := by omega
      clear hnl hxs hok hAL hBR hown hg hout HM HOUT
      go_wp2_with fail
      refine wp_region_held_drew (S := fun W => W.rangeAt gr (og + q * 24) BR ∧ W.rangeAt gl (ol + p * 24) AL) (by kernel_rfl) ⟨HRBR.out, HRAL.out⟩ (fun hHeld => ?_)
      refine wpAnyH_take (i := 0) (v := .slice (some ⟨gr, og, none⟩) r.length cr) rfl (by kernel_rfl) (by kernel_rfl) (by kernel_rfl) (fun _ _ _ h => h) (Or.inl ⟨by rfl, ?_⟩) hHeld ?_
      · intro W hSw
        go_simp
      refine wpAnyH_take (i := 1) (v := .int .i64 q) rfl (by kernel_rfl) (by kernel_rfl) (by kernel_rfl) (fun _ _ _ h => h) (Or.inl ⟨by rfl, ?_⟩) hHeld ?_
      · intro W hSw
        go_simp
      refine wpAnyH_take (i := 2) (v := .pointer (some ⟨gr, og + q * 24, none⟩)) rfl (by kernel_rfl) (by kernel_rfl) (by kernel_rfl) (fun _ _ _ h => h) (Or.inl ⟨by rfl, ?_⟩) hHeld ?_
      · intro W hSw
        go_simp
      refine wpAnyH_take (i := 3) (v := .agg BR.toArray) rfl (by kernel_rfl) (by kernel_rfl) (by kernel_rfl) (fun _ _ _ h => h) (yieldsIf_load_mid (by rfl) 176 _ rfl gr (og + q * 24) rfl BR _ (fun W hSw => hSw.1) Tryz.underlying176 rfl HIBR.out) hHeld ?_
      refine wpAnyH_take (i := 4) (v := .slice (some ⟨gl, ol, none⟩) l.length cl) rfl (by kernel_rfl) (by kernel_rfl) (by kernel_rfl) (fun _ _ _ h => h) (Or.inl ⟨by rfl, ?_⟩) hHeld ?_
      · intro W hSw
        go_simp
      refine wpAnyH_take (i := 5) (v := .int .i64 p) rfl (by kernel_rfl) (by kernel_rfl) (by kernel_rfl) (fun _ _ _ h => h) (Or.inl ⟨by rfl, ?_⟩) hHeld ?_
      · intro W hSw
        go_simp
      refine wpAnyH_take (i := 6) (v := .pointer (some ⟨gl, ol + p * 24, none⟩)) rfl (by kernel_rfl) (by kernel_rfl) (by kernel_rfl) (fun _ _ _ h => h) (Or.inl ⟨by rfl, ?_⟩) hHeld ?_
      · intro W hSw
        go_simp
      refine wpAnyH_take (i := 7) (v := .agg AL.toArray) rfl (by kernel_rfl) (by kernel_rfl) (by kernel_rfl) (fun _ _ _ h => h) (yieldsIf_load_mid (by rfl) 176 _ rfl gl (ol + p * 24) rfl AL _ (fun W hSw => hSw.2) Tryz.underlying176 rfl HIAL.out) hHeld ?_
      refine wpAnyH_ready (rs := [8]) (by kernel_rfl) (by simp) ?_
      refine AllReadyH.cons (o := _) rfl (fun K hK => ?_) AllReadyH.nil
      go_simp
      go_at_call 114
      refine (HAH.out _).mono ?_
      rintro e w1 ⟨rfl, hg1⟩
      have HG1 : Hid (wr.grownBy w1 none) := hid (grown_undrew (n := 1) hg1)
      have HRAL1 : Hid (w1.rangeAt gl (ol + p * 24) AL) := hid (range_grown HRAL.out HG1.out)
      have HRBR1 : Hid (w1.rangeAt gr (og + q * 24) BR) := hid (range_grown HRBR.out HG1.out)
      have hs1 := HG1.out.size
      clear hg1 HAH
      go_wp2_with fail
      refine hK.out _ _ ⟨HRBR1.out, HRAL1.out⟩ (fun hHeld2 => ?_)
      clear hK K
      refine wpAnyH_done (by kernel_rfl) ?_ _
      clear hHeld hHeld2
      have how1BR := HOWG.out _ (grown_alloc HG1.out (.cells BR.toArray 176))
      have how1AL := HOWG.out _ (grown_alloc HG1.out (.cells AL.toArray 176))
      cases ok with
      | true =>
        go_wp2_with (first
          | (refine wpList_load_mid rfl 176 (.tmp 30) rfl gr (og + q * 24) rfl BR _ HRBR1.out Tryz.underlying176 rfl HIBR.out ?_)
          | (refine wpList_build_one rfl 125 176 (.tmp 31) rfl _ BR rfl Tryz.underlying125 HZBR.out (by omega) (by omega) ?_)
          | (at_builtin; refine wpList_append_own _ rfl (.tmp 27) (.tmp 32) 125 rfl (w.heap.size) 176 i0 (.agg #[.int .i64 0, .int .i64 0, .int .i64 0, .int .i64 0, .int .i64 0, .int .i64 0, .int .i64 0, .int .i64 0, .int .i64 0, .int .i64 0, .int .i64 0, .int .i64 0, .int .i64 0, .int .i64 0, .int .i64 0, .int .i64 0, .bool false, .bool false, .bool false, .bool false, .int .i64 0, .int .i64 0, .int .i64 0, .int .i64 0]) 24 168 Tryz.underlying125 hi0 hz0 hz1 hz2 rfl (by decide) _ _ _ rfl how1BR _ 1 1 BR rfl (by omega) (fun j u hj => news_at1 hj) HOBR.out (by unfold maxLen; omega) (by omega) (by simp; omega) ?_))
        intro v' w3 hown3 hg3 _
        have HO3 := hid hown3
        have HG3 : Hid (w.grownBy w3 none) := hid (grown_own2 (grown_trans HG.out (grown_alloc HG1.out _)) hg3 HLT.out)
        clear hown3 hg3
        go_wp2_with fail
        go_roundw
        case rel => exact ⟨p, q + 1, _, by omega, by omega, rfl, by go_num, HNR.out (by first | rfl | trivial), by rw [List.length_append, ← HNLN.out, HOL.out]; simp; omega, HWR.out _ _ HO3.out, HG3.out⟩
        case measure => simp [intOf]; omega
      | false =>
        go_wp2_with (first
          | (refine wpList_load_mid rfl 176 (.tmp 39) rfl gl (ol + p * 24) rfl AL _ HRAL1.out Tryz.underlying176 rfl HIAL.out ?_)
          | (refine wpList_build_one rfl 125 176 (.tmp 40) rfl _ AL rfl Tryz.underlying125 HZAL.out (by omega) (by omega) ?_)
          | (at_builtin; refine wpList_append_own _ rfl (.tmp 36) (.tmp 41) 125 rfl (w.heap.size) 176 i0 (.agg #[.int .i64 0, .int .i64 0, .int .i64 0, .int .i64 0, .int .i64 0, .int .i64 0, .int .i64 0, .int .i64 0, .int .i64 0, .int .i64 0, .int .i64 0, .int .i64 0, .int .i64 0, .int .i64 0, .int .i64 0, .int .i64 0, .bool false, .bool false, .bool false, .bool false, .int .i64 0, .int .i64 0, .int .i64 0, .int .i64 0]) 24 168 Tryz.underlying125 hi0 hz0 hz1 hz2 rfl (by decide) _ _ _ rfl how1AL _ 1 1 AL rfl (by omega) (fun j u hj => news_at1 hj) HOAL.out (by unfold maxLen; omega) (by omega) (by simp; omega) ?_))
        intro v' w3 hown3 hg3 _
        have HO3 := hid hown3
        have HG3 : Hid (w.grownBy w3 none) := hid (grown_own2 (grown_trans HG.out (grown_alloc HG1.out _)) hg3 HLT.out)
        clear hown3 hg3
        go_wp2_with fail
        go_roundw
        case rel => exact ⟨p + 1, q, _, by omega, by omega, by go_num, rfl, HNL.out (by first | rfl | trivial), by rw [List.length_append, ← HNLN.out, HOL.out]; simp; omega, HWL.out _ _ HO3.out, HG3.out⟩
        case measure => simp [intOf]; omega
    · have HEND : Hid (out ++ l.drop p ++ r.drop q = mrg (ltI wt) l r) := hid (by
        rw [← HOUT.out]
        by_cases h1 : p < l.length
        · have h2 : q = r.length := by
            by_cases h3 : q < r.length
            · exact absurd ⟨h1, h3⟩ hboth
            · omega
          subst h2
          rw [List.drop_length, mrg_nil]
          simp
        · have h2 : p = l.length := by omega
          subst h2
          rw [List.drop_length]
          simp [mrg])
      obtain ⟨A1, hA1, hn1⟩ := tail_at wt (range_grown HL.out hg) hcl hp
      obtain ⟨A2, hA2, _⟩ := tail_at wt HR.out hcr hq
      have HTR : Hid (∀ W, w.grownBy W none → ∀ j u, (insW wt (r.drop q))[j]? = some u → W.cell? (A2.add j) = some u) := hid (fun W hW => by
        obtain ⟨A3, hA3, hn3⟩ := tail_at wt (range_grown HR.out hW) hcr hq
        have : A3 = A2 := by
          rw [hA2] at hA3
          exact (Option.some.inj hA3).symm
        rw [this] at hn3
        exact hn3)
      have HN1 := hid hn1
      have HA1 := hid hA1
      have HA2 := hid hA2
      have hdl1 : (insW wt (l.drop p)).length = (l.length - p) * 24 := by rw [insW_len]; simp
      have hdl2 : (insW wt (r.drop q)).length = (r.length - q) * 24 := by rw [insW_len]; simp
      have HO1 := hid (insW_ones wt (l.drop p))
      have HO2 := hid (insW_ones wt (r.drop q))
      have HII : Hid ((Tryz.prog.info? 176).map (·.size) = some 24) := hid info_inst
      have HFIN : Hid (∀ (w4 : World) (v : Value), w4.ownsRow w.heap.size 176 24 v (out.length + (l.length - p) + (r.length - q)) (insW wt out ++ (insW wt (l.drop p) ++ insW wt (r.drop q))) → w4.ownsRow w.heap.size 176 24 v (mrg (ltI wt) l r).length (insW wt (mrg (ltI wt) l r))) := hid (fun w4 v h => by
        rw [← HEND.out, insW_app, insW_app, List.length_append, List.length_append, List.length_drop, List.length_drop, List.append_assoc]
        exact h)
      obtain ⟨X1, hX1⟩ : ∃ X1, X1 = insW wt (l.drop p) := ⟨_, rfl⟩
      obtain ⟨X2, hX2⟩ : ∃ X2, X2 = insW wt (r.drop q) := ⟨_, rfl⟩
      rw [← hX1] at HN1 hdl1 HO1 HFIN
      rw [← hX2] at HTR hdl2 HO2 HFIN
      have p0 : (0 : Int) ≤ (p : Int) := by omega
      have q0 : (0 : Int) ≤ (q : Int) := by omega
      obtain ⟨nl, hnl⟩ : ∃ nl, nl = out.length := ⟨_, rfl⟩
      obtain ⟨xs, hxs⟩ : ∃ xs, xs = insW wt out := ⟨_, rfl⟩
      rw [← hnl] at HOWG HOW HLT HFIN hol ⊢
      rw [← hxs] at HOWG HOW HFIN
      have hnb : nl ≤ 4320000 := by omega
      have how0 := HOW.out
      clear hnl hxs hol
      clear hX1 hX2 hown hg hout hA1 hA2 hn1 HOUT HEND
      by_cases hpl : p < l.length
      all_goals
        have hpd : decide ((p : Int) < (l.length : Int)) = decide (p < l.length) := by simp
        have hqd : decide ((q : Int) < (r.length : Int)) = decide (q < r.length) := by simp
      · have hqn : decide ((q : Int) < (r.length : Int)) = false := by
          rw [hqd]
          simp only [decide_eq_false_iff_not]
          intro h3
          exact hboth ⟨hpl, h3⟩
        have hpy : (p : Int) < (l.length : Int) := by omega
        clear hpd hqd
        go_wp2_with (first
          | (refine wpList_slice_tail rfl 125 176 (.tmp 46) (.tmp 47) rfl _ _ _ p 24 rfl rfl (by omega) Tryz.underlying125 HII.out ?_; rw [HA1.out])
          | (at_builtin; refine wpList_append_own _ rfl (.tmp 45) (.tmp 48) 125 rfl (w.heap.size) 176 i0 (.agg #[.int .i64 0, .int .i64 0, .int .i64 0, .int .i64 0, .int .i64 0, .int .i64 0, .int .i64 0, .int .i64 0, .int .i64 0, .int .i64 0, .int .i64 0, .int .i64 0, .int .i64 0, .int .i64 0, .int .i64 0, .int .i64 0, .bool false, .bool false, .bool false, .bool false, .int .i64 0, .int .i64 0, .int .i64 0, .int .i64 0]) 24 168 Tryz.underlying125 hi0 hz0 hz1 hz2 rfl (by decide) _ _ _ rfl how0 A1 (l.length - p) _ X1 rfl hdl1 HN1.out HO1.out (by unfold maxLen; omega) (by omega) (by omega) ?_))
        intro v1 w3 hown3 hg3 _
        have HG3 : Hid (w.grownBy w3 none) := hid (grown_own2 HG.out hg3 HLT.out)
        have hs3 := HG3.out.size
        have HLT3 := hid (fun g hg => (hown3.lt g hg).1)
        clear hg3
        go_wp2_with (first
          | (refine wpList_slice_tail rfl 125 176 (.tmp 51) (.tmp 52) rfl _ _ _ q 24 rfl rfl (by omega) Tryz.underlying125 HII.out ?_; rw [HA2.out])
          | (at_builtin; refine wpList_append_own _ rfl (.tmp 50) (.tmp 53) 125 rfl (w.heap.size) 176 i0 (.agg #[.int .i64 0, .int .i64 0, .int .i64 0, .int .i64 0, .int .i64 0, .int .i64 0, .int .i64 0, .int .i64 0, .int .i64 0, .int .i64 0, .int .i64 0, .int .i64 0, .int .i64 0, .int .i64 0, .int .i64 0, .int .i64 0, .bool false, .bool false, .bool false, .bool false, .int .i64 0, .int .i64 0, .int .i64 0, .int .i64 0]) 24 168 Tryz.underlying125 hi0 hz0 hz1 hz2 rfl (by decide) _ _ _ rfl hown3 A2 (r.length - q) _ X2 rfl hdl2 (HTR.out _ HG3.out) HO2.out (by unfold maxLen; omega) (by omega) (by omega) ?_))
        intro v2 w4 hown4 hg4 _
        have HO4 := hid (HFIN.out _ _ hown4)
        have HG4 : Hid (w.grownBy w4 none) := hid (grown_own2 HG3.out hg4 HLT3.out)
        clear hown3 hown4 hg4
        go_wp2_with fail
        go_ret
        exact ⟨_, rfl, HO4.out, HG4.out⟩
      · have hpn : decide ((p : Int) < (l.length : Int)) = false := by
          rw [hpd]
          simpa using hpl
        clear hpd hqd
        go_wp2_with (first
          | (refine wpList_slice_tail rfl 125 176 (.tmp 46) (.tmp 47) rfl _ _ _ p 24 rfl rfl (by omega) Tryz.underlying125 HII.out ?_; rw [HA1.out])
          | (at_builtin; refine wpList_append_own _ rfl (.tmp 45) (.tmp 48) 125 rfl (w.heap.size) 176 i0 (.agg #[.int .i64 0, .int .i64 0, .int .i64 0, .int .i64 0, .int .i64 0, .int .i64 0, .int .i64 0, .int .i64 0, .int .i64 0, .int .i64 0, .int .i64 0, .int .i64 0, .int .i64 0, .int .i64 0, .int .i64 0, .int .i64 0, .bool false, .bool false, .bool false, .bool false, .int .i64 0, .int .i64 0, .int .i64 0, .int .i64 0]) 24 168 Tryz.underlying125 hi0 hz0 hz1 hz2 rfl (by decide) _ _ _ rfl how0 A1 (l.length - p) _ X1 rfl hdl1 HN1.out HO1.out (by unfold maxLen; omega) (by omega) (by omega) ?_))
        intro v1 w3 hown3 hg3 _
        have HG3 : Hid (w.grownBy w3 none) := hid (grown_own2 HG.out hg3 HLT.out)
        have hs3 := HG3.out.size
        have HLT3 := hid (fun g hg => (hown3.lt g hg).1)
        clear hg3
        go_wp2_with (first
          | (refine wpList_slice_tail rfl 125 176 (.tmp 51) (.tmp 52) rfl _ _ _ q 24 rfl rfl (by omega) Tryz.underlying125 HII.out ?_; rw [HA2.out])
          | (at_builtin; refine wpList_append_own _ rfl (.tmp 50) (.tmp 53) 125 rfl (w.heap.size) 176 i0 (.agg #[.int .i64 0, .int .i64 0, .int .i64 0, .int .i64 0, .int .i64 0, .int .i64 0, .int .i64 0, .int .i64 0, .int .i64 0, .int .i64 0, .int .i64 0, .int .i64 0, .int .i64 0, .int .i64 0, .int .i64 0, .int .i64 0, .bool false, .bool false, .bool false, .bool false, .int .i64 0, .int .i64 0, .int .i64 0, .int .i64 0]) 24 168 Tryz.underlying125 hi0 hz0 hz1 hz2 rfl (by decide) _ _ _ rfl hown3 A2 (r.length - q) _ X2 rfl hdl2 (HTR.out _ HG3.out) HO2.out (by unfold maxLen; omega) (by omega) (by omega) ?_))
        intro v2 w4 hown4 hg4 _
        have HO4 := hid (HFIN.out _ _ hown4)
        have HG4 : Hid (w.grownBy w4 none) := hid (grown_own2 HG3.out hg4 HLT3.out)
        clear hown3 hown4 hg4
        go_wp2_with fail
        go_ret
        exact ⟨_, rfl, HO4.out, HG4.out⟩

end Go.Proofs.YthlhbjnkohinmaaGreat
