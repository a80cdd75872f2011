import Derived.Test.YthlhbjnkohinmaaPart04
import Derived.Test.YthlhbjnkohinmaaPart05
import Derived.Maps.AppendAt
/- The program's instantiations: over a negated pattern, and over a test. -/
namespace Go.Proofs.Ythlhbjnkohinmaa
open Go.RowKit

/-- The cells of instantiations of one rule. -/
def insC (wt : Int) (l : List In) : List Value := l.flatMap (inCells wt)
def tstL (k c g t1 t2 : Int) : List Value := [.int .i64 k, .int .i64 c, .int .u8 g, .int .i64 (opK t1), .int .i64 (opV t1), .int .i64 (opK t2), .int .i64 (opV t2)]
theorem insC_snoc (wt : Int) (l : List In) (i : In) : insC wt (l ++ [i]) = insC wt l ++ inCells wt i := by simp [insC]
theorem pfilter_take {α : Type} (p : α → Bool) (l : List α) (k : Nat) (hk : k < l.length) : (l.take (k + 1)).filter p = (l.take k).filter p ++ (if p l[k] then [l[k]] else []) := by
  rw [List.take_succ_eq_append_getElem hk, List.filter_append]
  congr 1
  simp only [List.filter_cons, List.filter_nil]
theorem Try.infoI : (Try.prog.info? 138).map (fun i => (i.zero, i.size, i.bytes)) = some (some (.agg #[.int .i64 0, .int .i64 0, .int .i64 0, .int .i64 0, .int .i64 0, .int .i64 0, .int .i64 0, .int .i64 0, .int .i64 0, .int .i64 0, .int .i64 0, .int .i64 0, .int .i64 0, .int .i64 0, .int .i64 0, .int .i64 0, .bool false, .bool false, .bool false, .bool false, .int .i64 0, .int .i64 0, .int .i64 0, .int .i64 0]), 24, 168) := by kernel_rfl

set_option maxRecDepth 20000 in
set_option maxHeartbeats 1000000 in
theorem pwithout_any (wt : Int) (l : List In) (la : Option Addr) (lc B : Nat) (kd c g t1 t2 : Int) (F : List PFact) (fa : Option Addr) (fc B2 : Nat) (w : World) (hll : l.length ≤ 1000000)
    (hrow : w.ownsRow B 138 24 (.slice la l.length lc) l.length (insC wt l)) (h1 : terB t1 = true) (h2 : terB t2 = true) (hFl : F.length ≤ 60) (hfr : w.ownsRow B2 97 4 (.slice fa F.length fc) F.length (fcCells F)) :
    Calls Try.prog 74 #[.slice la l.length lc, condV kd c g t1 t2, .slice fa F.length fc] w fun e w' => ∃ v, e = .returned v ∧ w'.ownsRow w.heap.size 138 24 v (l.filter (fun i : In => noneB F i.env c t1 t2)).length (insC wt (l.filter (fun i : In => noneB F i.env c t1 t2))) ∧ w.grownBy w' none := by
  obtain ⟨i0, hi0, hz0, hz1, hz2⟩ := info_parts Try.infoI
  obtain ⟨C, hC⟩ : ∃ C, C = cndL kd c g t1 t2 := ⟨_, rfl⟩
  have hCl : C.length = 7 := by rw [hC]; rfl
  have hCV : condV kd c g t1 t2 = .agg C.toArray := by rw [hC]; rfl
  rw [hCV]
  have HCALL : Hid (∀ (k : Nat) (hk : k < l.length) (W : World), w.grownBy W none → Calls Try.prog 86 #[.agg ((inCells wt l[k]).drop 16).toArray, .agg C.toArray, .slice fa F.length fc] W fun r w' => r = .returned (.bool (!(noneB F l[k].env c t1 t2))) ∧ W.grownBy w' none) := hid (fun k hk W hW => by
    rw [hC]
    exact pany_any l[k].env kd c g t1 t2 F fa fc B2 W h1 h2 hFl (own_kept hfr hW (fun g hg => by cases hg)))
  obtain ⟨p, hp⟩ : ∃ p : In → Bool, p = (fun i : In => noneB F i.env c t1 t2) := ⟨_, rfl⟩
  rw [← hp]
  have HP : Hid (∀ (k : Nat) (hk : k < l.length), noneB F l[k].env c t1 t2 = p l[k]) := hid (fun k hk => by rw [hp])
  have HROW := hid hrow
  have HBC : Hid ((w.alloc (.cells C.toArray 163)).heap[w.heap.size]? = some (.cells C.toArray 163 (0, 0))) := hid (heap_alloc_new w _)
  have HIC : Hid ((Try.prog.info? 163).map (·.size) = some C.length) := hid (by rw [hCl]; exact info_cond)
  clear hrow hC hCV hp hfr h1 h2
  go_enter Try.func74, Try.ntmps74
  go_wp2_with fail
  go_loopw [7, 12] (fun t i wr => ∃ k : Nat, k ≤ l.length ∧ i = .int .i64 k ∧ wr.ownsRow w.heap.size 138 24 t ((l.take k).filter p).length (insC wt ((l.take k).filter p)) ∧ w.grownBy wr none ∧ wr.heap[w.heap.size]? = some (.cells C.toArray 163 (0, 0))) (fun _ i _ => l.length - (intOf i).toNat)
  case atStart => exact ⟨0, by omega, rfl, World.ownsRow_nil _ _ _ _, grown_alloc (grown_refl _ _) _, HBC.out⟩
  case round =>
    obtain ⟨k, hk, rfl, hown, hg, hbc⟩ := hrel
    have HG := hid hg
    have HOW := hid hown
    have HB := hid hbc
    by_cases hlt : k < l.length
    · have how := own_kept HROW.out hg (fun g hg => by cases hg)
      obtain ⟨gf, rfl, _, _, hgl, hcell⟩ := own_cell how (by omega)
      obtain ⟨L, hL⟩ : ∃ L, L = inCells wt l[k] := ⟨_, rfl⟩
      have HRG : Hid (wr.rangeAt gf (k * 24) L) := hid (by rw [hL]; exact row_range (inCells_len wt) hcell hlt)
      have hLl : L.length = 24 := by rw [hL]; rfl
      have HIL : Hid ((Try.prog.info? 138).map (·.size) = some L.length) := hid (by rw [hLl]; exact info_inst)
      have HIZ : Hid ((Try.prog.info? 138).map (fun i => (i.zero, i.size)) = some (some (.agg #[.int .i64 0, .int .i64 0, .int .i64 0, .int .i64 0, .int .i64 0, .int .i64 0, .int .i64 0, .int .i64 0, .int .i64 0, .int .i64 0, .int .i64 0, .int .i64 0, .int .i64 0, .int .i64 0, .int .i64 0, .int .i64 0, .bool false, .bool false, .bool false, .bool false, .int .i64 0, .int .i64 0, .int .i64 0, .int .i64 0]), L.length)) := hid (by rw [hLl]; kernel_rfl)
      have HON : Hid (∀ u ∈ L, u.oneCell' = true) := hid (by rw [hL]; exact inCells_one _ _)
      have HONA : Hid (L.toArray.all (·.oneCell') = true) := hid (all_oneCell_toArray HON.out)
      have HBN : Hid ((wr.alloc (.cells L.toArray 138)).heap[wr.heap.size]? = some (.cells L.toArray 138 (0, 0))) := hid (heap_alloc_new wr _)
      have HBC1 : Hid ((wr.alloc (.cells L.toArray 138)).heap[w.heap.size]? = some (.cells C.toArray 163 (0, 0))) := hid ((Below.heap_alloc _ _ _ (lt_of_block hbc)).trans hbc)
      obtain ⟨D, hD⟩ : ∃ D, D = L.drop 16 := ⟨_, rfl⟩
      have hDl : D.length = 8 := by rw [hD]; simp [hLl]
      have HID : Hid ((Try.prog.info? 136).map (·.size) = some D.length) := hid (by rw [hDl]; exact info_dig)
      have HRD : Hid ((wr.alloc (.cells L.toArray 138)).rangeAt wr.heap.size 16 D) := hid (range_drop HBN.out (fun j v hv => by rw [hD, List.getElem?_drop] at hv; exact hv))
      have HRC : Hid ((wr.alloc (.cells L.toArray 138)).rangeAt w.heap.size 0 C) := hid (range_of_blk HBC1.out rfl)
      have HCA := hid (HCALL.out k hlt)
      rw [HP.out k hlt, ← hL, ← hD] at HCA
      have hjl := Nat.le_trans (List.length_filter_le p (l.take k)) (List.length_take_le k l)
      obtain ⟨a, m, cc, rfl⟩ := own_slice hown
      have em := own_len hown
      subst em
      have hsz := hg.size
      have hwl : w.heap.size < wr.heap.size := lt_of_block hbc
      have hne : gf ≠ wr.heap.size := by omega
      have HSUC := hid (pfilter_take p l k hlt)
      obtain ⟨ok, hok⟩ : ∃ ok, ok = p l[k] := ⟨_, rfl⟩
      rw [← hok] at HCA HSUC
      have HFIN : Hid (ok = true → ∀ (w3 : World) (v' : Value), w3.ownsRow w.heap.size 138 24 v' (((l.take k).filter p).length + 1) (insC wt ((l.take k).filter p) ++ L) → w3.ownsRow w.heap.size 138 24 v' ((l.take (k + 1)).filter p).length (insC wt ((l.take (k + 1)).filter p))) := hid (fun e w3 v' h => by
        rw [HSUC.out, if_pos e, insC_snoc, List.length_append]
        rw [hL] at h
        exact h)
      have HSKIP : Hid (ok = false → (l.take (k + 1)).filter p = (l.take k).filter p) := hid (fun e => by rw [HSUC.out, e]; simp)
      have HWG : Hid (∀ o, wr.grownBy (wr.alloc o) none) := hid (fun o => grown_alloc (grown_refl _ _) o)
      have HOWG : Hid (∀ W, wr.grownBy W none → W.ownsRow w.heap.size 138 24 (.slice a ((l.take k).filter p).length cc) ((l.take k).filter p).length (insC wt ((l.take k).filter p))) := hid (fun W hW => own_kept HOW.out hW (fun g hg => by cases hg))
      have HLT := hid (fun g hg => (HOW.out.lt g hg).1)
      have HNB : Hid ((Value.slice a ((l.take k).filter p).length cc).ownBlock ≠ some w.heap.size) := hid (fun e => own_ne_ty HOW.out HB.out (by decide) e)
      obtain ⟨nl, hnl⟩ : ∃ nl, nl = ((l.take k).filter p).length := ⟨_, rfl⟩
      obtain ⟨xs, hxs⟩ : ∃ xs, xs = insC wt ((l.take k).filter p) := ⟨_, rfl⟩
      rw [← hnl] at HFIN HOWG HOW HLT HNB hjl ⊢
      rw [← hxs] at HFIN HOWG HOW
      have HNL := hid hnl
      have HXS := hid hxs
      clear hnl hxs HSUC hL hD how hcell hown hg hbc hok HCALL
      go_wp2_with (first
        | (refine wpList_load_mid rfl 138 (.tmp 14) rfl gf (k * 24) rfl L _ HRG.out Try.underlying138 rfl HIL.out ?_)
        | (refine wpList_store_new rfl 138 (.tmp 9) (.tmp 15) rfl _ L rfl rfl hLl.symm HIL.out HONA.out ?_)
        | (refine wpList_load_mid rfl 136 (.tmp 16) rfl wr.heap.size 16 rfl D _ HRD.out Try.underlying136 rfl HID.out ?_)
        | (refine wpList_load_mid rfl 163 (.tmp 4) rfl w.heap.size 0 rfl C _ HRC.out Try.underlying163 rfl HIC.out ?_))
      go_at_call 86
      refine (HCA.out _ (grown_trans HG.out (HWG.out _))).mono ?_
      rintro e w1 ⟨rfl, hg1⟩
      have hB1 := (hg1.block _ (lt_of_block HBN.out) (by simp)).trans HBN.out
      have HRL : Hid (w1.rangeAt wr.heap.size 0 L) := hid (range_of_blk hB1 rfl)
      have HG1 := hid (grown_trans (HWG.out _) hg1)
      have HBC2 : Hid (w1.heap[w.heap.size]? = some (.cells C.toArray 163 (0, 0))) := hid ((hg1.block _ (lt_of_block HBC1.out) (by simp)).trans HBC1.out)
      have how1 := HOWG.out _ (grown_alloc HG1.out (.cells L.toArray 138))
      have hsw1 : w.heap.size ≤ w1.heap.size := by have := HG1.out.size; omega
      clear hg1 hB1 HBN HBC1 HRG HRD HRC HCA
      cases ok with
      | true =>
        have HFI := hid (HFIN.out rfl)
        clear HFIN HSKIP
        go_wp2_with (first
          | (refine wpList_load_mid rfl 138 (.tmp 9) rfl wr.heap.size 0 rfl L _ HRL.out Try.underlying138 rfl HIL.out ?_)
          | (refine wpList_build_one rfl 102 138 (.tmp 23) rfl _ L rfl Try.underlying102 HIZ.out (by omega) (by omega) ?_)
          | (at_builtin; refine wpList_append_own _ rfl (.tmp 22) (.tmp 24) 102 rfl (w.heap.size) 138 i0 (.agg #[.int .i64 0, .int .i64 0, .int .i64 0, .int .i64 0, .int .i64 0, .int .i64 0, .int .i64 0, .int .i64 0, .int .i64 0, .int .i64 0, .int .i64 0, .int .i64 0, .int .i64 0, .int .i64 0, .int .i64 0, .int .i64 0, .bool false, .bool false, .bool false, .bool false, .int .i64 0, .int .i64 0, .int .i64 0, .int .i64 0]) 24 168 Try.underlying102 hi0 hz0 hz1 hz2 rfl (by decide) _ _ _ rfl how1 _ 1 1 L rfl (by omega) (fun j u hj => news_at1 hj) HON.out (by unfold maxLen; omega) (by omega) (by simp; omega) ?_))
        intro v' w3 hown3 hg3 _
        have HO3 := hid hown3
        have HG3 := hid hg3
        have HB3 : Hid (w3.heap[w.heap.size]? = some (.cells C.toArray 163 (0, 0))) := hid (by
          have h4 := (Below.heap_alloc w1 (.cells L.toArray 138) _ (lt_of_block HBC2.out)).trans HBC2.out
          exact (hg3.block _ (lt_of_block h4) (fun e => HNB.out e.symm)).trans h4)
        clear hown3 hg3
        go_wp2_with fail
        go_roundw
        case rel => exact ⟨k + 1, by omega, by go_num, HFI.out _ _ HO3.out, grown_own2 (grown_trans HG.out (grown_alloc HG1.out _)) HG3.out HLT.out, HB3.out⟩
        case measure => simp [intOf]; omega
      | false =>
        have HSK := hid (HSKIP.out rfl)
        clear HFIN HSKIP how1
        go_wp2_with fail
        go_roundw
        case rel => exact ⟨k + 1, by omega, by go_num, by rw [HSK.out, ← HNL.out, ← HXS.out]; exact HOWG.out _ HG1.out, grown_trans HG.out HG1.out, HBC2.out⟩
        case measure => simp [intOf]; omega
    · have hkl : k = l.length := by omega
      subst hkl
      rw [List.take_length] at HOW
      clear hg hown hbc
      go_wp2_with fail
      go_ret
      exact ⟨_, rfl, HOW.out, HG.out⟩

set_option maxRecDepth 20000 in
set_option maxHeartbeats 1000000 in
theorem pholding_any (wt : Int) (l : List In) (la : Option Addr) (lc B : Nat) (kd c g t1 t2 : Int) (w : World) (hll : l.length ≤ 1000000)
    (hrow : w.ownsRow B 138 24 (.slice la l.length lc) l.length (insC wt l)) (hg : sgnB g = true) (h1 : simB t1 = true) (h2 : simB t2 = true) :
    Calls Try.prog 75 #[.slice la l.length lc, testV kd c g t1 t2] w fun e w' => ∃ v, e = .returned v ∧ w'.ownsRow w.heap.size 138 24 v (l.filter (fun i : In => tstB g (ofE 0 i.env t1) (ofE 0 i.env t2))).length (insC wt (l.filter (fun i : In => tstB g (ofE 0 i.env t1) (ofE 0 i.env t2)))) ∧ w.grownBy w' none := by
  obtain ⟨i0, hi0, hz0, hz1, hz2⟩ := info_parts Try.infoI
  obtain ⟨C, hC⟩ : ∃ C, C = tstL kd c g t1 t2 := ⟨_, rfl⟩
  have hCl : C.length = 7 := by rw [hC]; rfl
  have hCV : testV kd c g t1 t2 = .agg C.toArray := by rw [hC]; rfl
  rw [hCV]
  have HCALL : Hid (∀ (k : Nat) (hk : k < l.length) (W : World), w.grownBy W none → Calls Try.prog 87 #[.agg ((inCells wt l[k]).drop 16).toArray, .agg C.toArray] W fun r w' => r = .returned (.bool (tstB g (ofE 0 l[k].env t1) (ofE 0 l[k].env t2))) ∧ W.grownBy w' none) := hid (fun k hk W hW => by
    rw [hC]
    exact pholds_any l[k].env kd c g t1 t2 W hg h1 h2)
  obtain ⟨p, hp⟩ : ∃ p : In → Bool, p = (fun i : In => tstB g (ofE 0 i.env t1) (ofE 0 i.env t2)) := ⟨_, rfl⟩
  rw [← hp]
  have HP : Hid (∀ (k : Nat) (hk : k < l.length), tstB g (ofE 0 l[k].env t1) (ofE 0 l[k].env t2) = p l[k]) := hid (fun k hk => by rw [hp])
  have HROW := hid hrow
  have HBC : Hid ((w.alloc (.cells C.toArray 163)).heap[w.heap.size]? = some (.cells C.toArray 163 (0, 0))) := hid (heap_alloc_new w _)
  have HIC : Hid ((Try.prog.info? 163).map (·.size) = some C.length) := hid (by rw [hCl]; exact info_cond)
  clear hrow hC hCV hp hg h1 h2
  go_enter Try.func75, Try.ntmps75
  go_wp2_with fail
  go_loopw [5, 10] (fun t i wr => ∃ k : Nat, k ≤ l.length ∧ i = .int .i64 k ∧ wr.ownsRow w.heap.size 138 24 t ((l.take k).filter p).length (insC wt ((l.take k).filter p)) ∧ w.grownBy wr none ∧ wr.heap[w.heap.size]? = some (.cells C.toArray 163 (0, 0))) (fun _ i _ => l.length - (intOf i).toNat)
  case atStart => exact ⟨0, by omega, rfl, World.ownsRow_nil _ _ _ _, grown_alloc (grown_refl _ _) _, HBC.out⟩
  case round =>
    obtain ⟨k, hk, rfl, hown, hg, hbc⟩ := hrel
    have HG := hid hg
    have HOW := hid hown
    have HB := hid hbc
    by_cases hlt : k < l.length
    · have how := own_kept HROW.out hg (fun g hg => by cases hg)
      obtain ⟨gf, rfl, _, _, hgl, hcell⟩ := own_cell how (by omega)
      obtain ⟨L, hL⟩ : ∃ L, L = inCells wt l[k] := ⟨_, rfl⟩
      have HRG : Hid (wr.rangeAt gf (k * 24) L) := hid (by rw [hL]; exact row_range (inCells_len wt) hcell hlt)
      have hLl : L.length = 24 := by rw [hL]; rfl
      have HIL : Hid ((Try.prog.info? 138).map (·.size) = some L.length) := hid (by rw [hLl]; exact info_inst)
      have HIZ : Hid ((Try.prog.info? 138).map (fun i => (i.zero, i.size)) = some (some (.agg #[.int .i64 0, .int .i64 0, .int .i64 0, .int .i64 0, .int .i64 0, .int .i64 0, .int .i64 0, .int .i64 0, .int .i64 0, .int .i64 0, .int .i64 0, .int .i64 0, .int .i64 0, .int .i64 0, .int .i64 0, .int .i64 0, .bool false, .bool false, .bool false, .bool false, .int .i64 0, .int .i64 0, .int .i64 0, .int .i64 0]), L.length)) := hid (by rw [hLl]; kernel_rfl)
      have HON : Hid (∀ u ∈ L, u.oneCell' = true) := hid (by rw [hL]; exact inCells_one _ _)
      have HONA : Hid (L.toArray.all (·.oneCell') = true) := hid (all_oneCell_toArray HON.out)
      have HBN : Hid ((wr.alloc (.cells L.toArray 138)).heap[wr.heap.size]? = some (.cells L.toArray 138 (0, 0))) := hid (heap_alloc_new wr _)
      have HBC1 : Hid ((wr.alloc (.cells L.toArray 138)).heap[w.heap.size]? = some (.cells C.toArray 163 (0, 0))) := hid ((Below.heap_alloc _ _ _ (lt_of_block hbc)).trans hbc)
      obtain ⟨D, hD⟩ : ∃ D, D = L.drop 16 := ⟨_, rfl⟩
      have hDl : D.length = 8 := by rw [hD]; simp [hLl]
      have HID : Hid ((Try.prog.info? 136).map (·.size) = some D.length) := hid (by rw [hDl]; exact info_dig)
      have HRD : Hid ((wr.alloc (.cells L.toArray 138)).rangeAt wr.heap.size 16 D) := hid (range_drop HBN.out (fun j v hv => by rw [hD, List.getElem?_drop] at hv; exact hv))
      have HRC : Hid ((wr.alloc (.cells L.toArray 138)).rangeAt w.heap.size 0 C) := hid (range_of_blk HBC1.out rfl)
      have HCA := hid (HCALL.out k hlt)
      rw [HP.out k hlt, ← hL, ← hD] at HCA
      have hjl := Nat.le_trans (List.length_filter_le p (l.take k)) (List.length_take_le k l)
      obtain ⟨a, m, cc, rfl⟩ := own_slice hown
      have em := own_len hown
      subst em
      have hsz := hg.size
      have hwl : w.heap.size < wr.heap.size := lt_of_block hbc
      have hne : gf ≠ wr.heap.size := by omega
      have HSUC := hid (pfilter_take p l k hlt)
      obtain ⟨ok, hok⟩ : ∃ ok, ok = p l[k] := ⟨_, rfl⟩
      rw [← hok] at HCA HSUC
      have HFIN : Hid (ok = true → ∀ (w3 : World) (v' : Value), w3.ownsRow w.heap.size 138 24 v' (((l.take k).filter p).length + 1) (insC wt ((l.take k).filter p) ++ L) → w3.ownsRow w.heap.size 138 24 v' ((l.take (k + 1)).filter p).length (insC wt ((l.take (k + 1)).filter p))) := hid (fun e w3 v' h => by
        rw [HSUC.out, if_pos e, insC_snoc, List.length_append]
        rw [hL] at h
        exact h)
      have HSKIP : Hid (ok = false → (l.take (k + 1)).filter p = (l.take k).filter p) := hid (fun e => by rw [HSUC.out, e]; simp)
      have HWG : Hid (∀ o, wr.grownBy (wr.alloc o) none) := hid (fun o => grown_alloc (grown_refl _ _) o)
      have HOWG : Hid (∀ W, wr.grownBy W none → W.ownsRow w.heap.size 138 24 (.slice a ((l.take k).filter p).length cc) ((l.take k).filter p).length (insC wt ((l.take k).filter p))) := hid (fun W hW => own_kept HOW.out hW (fun g hg => by cases hg))
      have HLT := hid (fun g hg => (HOW.out.lt g hg).1)
      have HNB : Hid ((Value.slice a ((l.take k).filter p).length cc).ownBlock ≠ some w.heap.size) := hid (fun e => own_ne_ty HOW.out HB.out (by decide) e)
      obtain ⟨nl, hnl⟩ : ∃ nl, nl = ((l.take k).filter p).length := ⟨_, rfl⟩
      obtain ⟨xs, hxs⟩ : ∃ xs, xs = insC wt ((l.take k).filter p) := ⟨_, rfl⟩
      rw [← hnl] at HFIN HOWG HOW HLT HNB hjl ⊢
      rw [← hxs] at HFIN HOWG HOW
      have HNL := hid hnl
      have HXS := hid hxs
      clear hnl hxs HSUC hL hD how hcell hown hg hbc hok HCALL
      go_wp2_with (first
        | (refine wpList_load_mid rfl 138 (.tmp 12) rfl gf (k * 24) rfl L _ HRG.out Try.underlying138 rfl HIL.out ?_)
        | (refine wpList_store_new rfl 138 (.tmp 7) (.tmp 13) rfl _ L rfl rfl hLl.symm HIL.out HONA.out ?_)
        | (refine wpList_load_mid rfl 136 (.tmp 14) rfl wr.heap.size 16 rfl D _ HRD.out Try.underlying136 rfl HID.out ?_)
        | (refine wpList_load_mid rfl 163 (.tmp 3) rfl w.heap.size 0 rfl C _ HRC.out Try.underlying163 rfl HIC.out ?_))
      go_at_call 87
      refine (HCA.out _ (grown_trans HG.out (HWG.out _))).mono ?_
      rintro e w1 ⟨rfl, hg1⟩
      have hB1 := (hg1.block _ (lt_of_block HBN.out) (by simp)).trans HBN.out
      have HRL : Hid (w1.rangeAt wr.heap.size 0 L) := hid (range_of_blk hB1 rfl)
      have HG1 := hid (grown_trans (HWG.out _) hg1)
      have HBC2 : Hid (w1.heap[w.heap.size]? = some (.cells C.toArray 163 (0, 0))) := hid ((hg1.block _ (lt_of_block HBC1.out) (by simp)).trans HBC1.out)
      have how1 := HOWG.out _ (grown_alloc HG1.out (.cells L.toArray 138))
      have hsw1 : w.heap.size ≤ w1.heap.size := by have := HG1.out.size; omega
      clear hg1 hB1 HBN HBC1 HRG HRD HRC HCA
      cases ok with
      | true =>
        have HFI := hid (HFIN.out rfl)
        clear HFIN HSKIP
        go_wp2_with (first
          | (refine wpList_load_mid rfl 138 (.tmp 7) rfl wr.heap.size 0 rfl L _ HRL.out Try.underlying138 rfl HIL.out ?_)
          | (refine wpList_build_one rfl 102 138 (.tmp 19) rfl _ L rfl Try.underlying102 HIZ.out (by omega) (by omega) ?_)
          | (at_builtin; refine wpList_append_own _ rfl (.tmp 18) (.tmp 20) 102 rfl (w.heap.size) 138 i0 (.agg #[.int .i64 0, .int .i64 0, .int .i64 0, .int .i64 0, .int .i64 0, .int .i64 0, .int .i64 0, .int .i64 0, .int .i64 0, .int .i64 0, .int .i64 0, .int .i64 0, .int .i64 0, .int .i64 0, .int .i64 0, .int .i64 0, .bool false, .bool false, .bool false, .bool false, .int .i64 0, .int .i64 0, .int .i64 0, .int .i64 0]) 24 168 Try.underlying102 hi0 hz0 hz1 hz2 rfl (by decide) _ _ _ rfl how1 _ 1 1 L rfl (by omega) (fun j u hj => news_at1 hj) HON.out (by unfold maxLen; omega) (by omega) (by simp; omega) ?_))
        intro v' w3 hown3 hg3 _
        have HO3 := hid hown3
        have HG3 := hid hg3
        have HB3 : Hid (w3.heap[w.heap.size]? = some (.cells C.toArray 163 (0, 0))) := hid (by
          have h4 := (Below.heap_alloc w1 (.cells L.toArray 138) _ (lt_of_block HBC2.out)).trans HBC2.out
          exact (hg3.block _ (lt_of_block h4) (fun e => HNB.out e.symm)).trans h4)
        clear hown3 hg3
        go_wp2_with fail
        go_roundw
        case rel => exact ⟨k + 1, by omega, by go_num, HFI.out _ _ HO3.out, grown_own2 (grown_trans HG.out (grown_alloc HG1.out _)) HG3.out HLT.out, HB3.out⟩
        case measure => simp [intOf]; omega
      | false =>
        have HSK := hid (HSKIP.out rfl)
        clear HFIN HSKIP how1
        go_wp2_with fail
        go_roundw
        case rel => exact ⟨k + 1, by omega, by go_num, by rw [HSK.out, ← HNL.out, ← HXS.out]; exact HOWG.out _ HG1.out, grown_trans HG.out HG1.out, HBC2.out⟩
        case measure => simp [intOf]; omega
    · have hkl : k = l.length := by omega
      subst hkl
      rw [List.take_length] at HOW
      clear hg hown hbc
      go_wp2_with fail
      go_ret
      exact ⟨_, rfl, HOW.out, HG.out⟩

end Go.Proofs.Ythlhbjnkohinmaa

/- The program's instantiations: over a pattern. -/
namespace Go.Proofs.Ythlhbjnkohinmaa
open Go.RowKit

theorem onP_take (O : List PFact) (c t1 t2 : Int) (i : In) (j : Nat) (hj : j < O.length) : onP (O.take (j + 1)) c t1 t2 i = onP (O.take j) c t1 t2 i ++ ((goP i.env c t1 t2 O[j]).map fun e => (⟨i.rule, i.facts ++ [O[j]], e⟩ : In)).toList := by
  unfold onP
  rw [List.take_succ_eq_append_getElem hj, List.filterMap_append]
  congr 1
theorem flat_take {α β : Type} (f : α → List β) (l : List α) (k : Nat) (hk : k < l.length) : (l.take (k + 1)).flatMap f = (l.take k).flatMap f ++ f l[k] := by
  rw [List.take_succ_eq_append_getElem hk, List.flatMap_append]
  simp
theorem onP_ofCl (F : List PFact) (c t1 t2 : Int) (i : In) : onP (ofCl F (c - 97)) c t1 t2 i = onP F c t1 t2 i := by
  unfold onP ofCl
  rw [List.filterMap_filter]
  congr 1
  funext q
  by_cases h : (q.1 : Int) / 10 = c - 97
  · simp [h]
  · have e : goP i.env c t1 t2 q = none := by
      unfold goP
      rw [if_neg (fun e => h e.symm)]
    simp [h, e]
theorem insC_app (wt : Int) (l m : List In) : insC wt (l ++ m) = insC wt l ++ insC wt m := by simp [insC]
/-- The list so far: k whole ones, and j facts of the next. -/
def exN (O : List PFact) (c t1 t2 : Int) (l : List In) (k j : Nat) : List In := (l.take k).flatMap (onP O c t1 t2) ++ (match l[k]? with | some i => onP (O.take j) c t1 t2 i | none => [])
theorem exN_zero (O : List PFact) (c t1 t2 : Int) (l : List In) (k : Nat) : exN O c t1 t2 l k 0 = (l.take k).flatMap (onP O c t1 t2) := by
  unfold exN
  cases l[k]? <;> simp [onP]
theorem exN_next (O : List PFact) (c t1 t2 : Int) (l : List In) (k : Nat) (hk : k < l.length) : exN O c t1 t2 l k O.length = (l.take (k + 1)).flatMap (onP O c t1 t2) := by
  unfold exN
  rw [List.getElem?_eq_getElem hk, flat_take _ _ _ hk, List.take_length]
theorem exN_succ (O : List PFact) (c t1 t2 : Int) (l : List In) (k : Nat) (hk : k < l.length) (j : Nat) (hj : j < O.length) : exN O c t1 t2 l k (j + 1) = exN O c t1 t2 l k j ++ ((goP l[k].env c t1 t2 O[j]).map fun e => (⟨l[k].rule, l[k].facts ++ [O[j]], e⟩ : In)).toList := by
  unfold exN
  rw [List.getElem?_eq_getElem hk]
  simp only []
  rw [onP_take _ _ _ _ _ _ hj, List.append_assoc]
theorem exN_len (O : List PFact) (c t1 t2 : Int) (l : List In) (k j : Nat) (hO : O.length ≤ 60) (hl : l.length ≤ 3600) : (exN O c t1 t2 l k j).length ≤ 216060 := by
  unfold exN
  have h1 := flatMap_len (m := 60) (fun i => Nat.le_trans (onP_len O c t1 t2 i) hO) (l.take k)
  have h2 : (l.take k).length ≤ 3600 := Nat.le_trans (List.length_take_le' k l) hl
  rw [List.length_append]
  have h3 : (match l[k]? with | some i => onP (O.take j) c t1 t2 i | none => []).length ≤ 60 := by
    cases l[k]? with
    | none => simp
    | some i =>
      simp only []
      have h5 := onP_len (O.take j) c t1 t2 i
      have h6 := List.length_take_le' j O
      omega
  omega

set_option maxRecDepth 20000 in
set_option maxHeartbeats 2000000 in
theorem pextended_any (wt : Int) (l : List In) (la : Option Addr) (lc B : Nat) (kd c g t1 t2 : Int) (F : List PFact) (fa : Option Addr) (fc B2 : Nat) (w : World) (hll : l.length ≤ 3600) (h3 : ∀ i ∈ l, i.facts.length < 3)
    (hrow : w.ownsRow B 138 24 (.slice la l.length lc) l.length (insC wt l)) (h1 : terB t1 = true) (h2 : terB t2 = true) (hFl : F.length ≤ 60) (hfr : w.ownsRow B2 97 4 (.slice fa F.length fc) F.length (fcCells F)) :
    Calls Try.prog 73 #[.slice la l.length lc, condV kd c g t1 t2, .slice fa F.length fc] w fun e w' => ∃ v, e = .returned v ∧ w'.ownsRow w.heap.size 138 24 v (l.flatMap (onP F c t1 t2)).length (insC wt (l.flatMap (onP F c t1 t2))) ∧ w.grownBy w' none := by
  obtain ⟨i0, hi0, hz0, hz1, hz2⟩ := info_parts Try.infoI
  obtain ⟨C, hC⟩ : ∃ C, C = cndL kd c g t1 t2 := ⟨_, rfl⟩
  have hCl : C.length = 7 := by rw [hC]; rfl
  have hCV : condV kd c g t1 t2 = .agg C.toArray := by rw [hC]; rfl
  rw [hCV]
  obtain ⟨O, hO⟩ : ∃ O, O = ofCl F (c - 97) := ⟨_, rfl⟩
  have hOl : O.length ≤ 60 := by rw [hO]; exact Nat.le_trans (ofCl_le _ _) hFl
  have HCALL : Hid (∀ (k : Nat) (hk : k < l.length) (j : Nat) (hj : j < O.length) (W : World), Calls Try.prog 85 #[.agg (inCells wt l[k]).toArray, .agg C.toArray, .agg (facL O[j]).toArray] W fun r w' => r = .returned (withV wt l[k] c t1 t2 O[j]) ∧ W.grownBy w' none) := hid (fun k hk j hj W => by
    rw [hC]
    exact pinst_any wt l[k] kd c g t1 t2 O[j] W (h3 _ (List.getElem_mem hk)) h1 h2)
  have HONP : Hid (l.flatMap (onP F c t1 t2) = l.flatMap (onP O c t1 t2)) := hid (by
    rw [hO]
    congr 1
    funext i
    exact (onP_ofCl F c t1 t2 i).symm)
  rw [HONP.out]
  have HOC : Hid (∀ W, w.grownBy W none → Calls Try.prog 84 #[.slice fa F.length fc, .int .i64 (c - 97)] W fun e w' => ∃ v, e = .returned v ∧ w'.ownsRow W.heap.size 97 4 v O.length (fcCells O) ∧ W.grownBy w' none) := hid (fun W hW => by
    rw [hO]
    exact pofclass_any F (c - 97) fa fc B2 W hFl (own_kept hfr hW (fun g hg => by cases hg)))
  have HROW := hid hrow
  have HBC : Hid ((w.alloc (.cells C.toArray 163)).heap[w.heap.size]? = some (.cells C.toArray 163 (0, 0))) := hid (heap_alloc_new w _)
  have HIC : Hid ((Try.prog.info? 163).map (·.size) = some C.length) := hid (by rw [hCl]; exact info_cond)
  obtain ⟨cv, hcv⟩ : ∃ cv : Int, cv = c - 97 := ⟨_, rfl⟩
  have kc : (w.alloc (.cells C.toArray 163)).cell? ⟨w.heap.size, 1, none⟩ = some (.int .i64 cv) := by
    rw [cell_of_row _ _ _ _ _ _ HBC.out, hC, hcv]
    rfl
  rw [← hcv] at HOC
  clear hrow hC hCV hfr h1 h2 hO HONP hcv hFl h3
  go_enter Try.func73, Try.ntmps73
  go_wp2_with fail
  go_at_call 84
  refine (HOC.out _ (grown_alloc (grown_refl _ _) _)).mono ?_
  rintro e WA ⟨vo, rfl, hoo, hga⟩
  have HWA : Hid (w.grownBy WA none) := hid (grown_trans (grown_alloc (grown_refl _ _) _) hga)
  have HCA0 : Hid (WA.heap[w.heap.size]? = some (.cells C.toArray 163 (0, 0))) := hid ((hga.block _ (lt_of_block HBC.out) (by simp)).trans HBC.out)
  obtain ⟨oa, om, oc, rfl⟩ := own_slice hoo
  have eom := own_len hoo
  subst eom
  have HOO := hid hoo
  have HRA := hid (own_kept HROW.out HWA.out (fun g hg => by cases hg))
  have hcb := lt_of_block HCA0.out
  clear hoo hga HOC HBC kc HROW
  generalize w.heap.size + 1 = bo at HOO
  obtain ⟨cb, hcbe⟩ : ∃ cb, cb = w.heap.size := ⟨_, rfl⟩
  have HCBE := hid hcbe
  rw [← hcbe] at hcb HCA0 ⊢
  clear hcbe
  go_wp2_with fail
  go_loopw [8, 21] (fun t i wr => ∃ k : Nat, k ≤ l.length ∧ i = .int .i64 k ∧ wr.ownsRow WA.heap.size 138 24 t ((l.take k).flatMap (onP O c t1 t2)).length (insC wt ((l.take k).flatMap (onP O c t1 t2))) ∧ WA.grownBy wr none) (fun _ i _ => l.length - (intOf i).toNat)
  case atStart => exact ⟨0, by omega, rfl, World.ownsRow_nil _ _ _ _, grown_refl _ _⟩
  case round =>
    obtain ⟨k, hk, rfl, hown, hg⟩ := hrel
    have HG := hid hg
    have HOW := hid hown
    by_cases hlt : k < l.length
    · have how := own_kept HRA.out hg (fun g hg => by cases hg)
      obtain ⟨gf, rfl, _, _, hgl, hcell⟩ := own_cell how (by omega)
      obtain ⟨L, hL⟩ : ∃ L, L = inCells wt l[k] := ⟨_, rfl⟩
      have HRG : Hid (wr.rangeAt gf (k * 24) L) := hid (by rw [hL]; exact row_range (inCells_len wt) hcell hlt)
      have hLl : L.length = 24 := by rw [hL]; rfl
      have HIL : Hid ((Try.prog.info? 138).map (·.size) = some L.length) := hid (by rw [hLl]; exact info_inst)
      have HONA : Hid (L.toArray.all (·.oneCell') = true) := hid (all_oneCell_toArray (by rw [hL]; exact inCells_one _ _))
      have HBN : Hid ((wr.alloc (.cells L.toArray 138)).heap[wr.heap.size]? = some (.cells L.toArray 138 (0, 0))) := hid (heap_alloc_new wr _)
      have HCK := hid (HCALL.out k hlt)
      rw [← hL] at HCK
      have hsz := hg.size
      have hwl : cb < wr.heap.size := by omega
      obtain ⟨a, m, cc, rfl⟩ := own_slice hown
      have em := own_len hown
      subst em
      have HSU := hid (exN_succ O c t1 t2 l k hlt)
      have HNX := hid (exN_next O c t1 t2 l k hlt)
      have HLEN : Hid (∀ j, (exN O c t1 t2 l k j).length ≤ 216060) := hid (fun j => exN_len O c t1 t2 l k j hOl hll)
      have HST : Hid ((wr.alloc (.cells L.toArray 138)).ownsRow WA.heap.size 138 24 (.slice a ((l.take k).flatMap (onP O c t1 t2)).length cc) (exN O c t1 t2 l k 0).length (insC wt (exN O c t1 t2 l k 0))) := hid (by
        rw [exN_zero]
        exact own_kept HOW.out (grown_alloc (grown_refl wr none) _) (fun g hg => by cases hg))
      have HSN : Hid ((Value.slice a ((l.take k).flatMap (onP O c t1 t2)).length cc).ownBlock ≠ some wr.heap.size) := hid (fun e => by
        have := (HOW.out.lt _ e).2
        omega)
      obtain ⟨n0, hn0⟩ : ∃ n0, n0 = ((l.take k).flatMap (onP O c t1 t2)).length := ⟨_, rfl⟩
      rw [← hn0] at HST HSN ⊢
      have HL := hid hL
      clear hn0 hL how hcell hown hg
      go_wp2_with (first
        | (refine wpList_load_mid rfl 138 (.tmp 23) rfl gf (k * 24) rfl L _ HRG.out Try.underlying138 rfl HIL.out ?_)
        | (refine wpList_store_new rfl 138 (.tmp 10) (.tmp 24) rfl _ L rfl rfl hLl.symm HIL.out HONA.out ?_))
      go_loopw [8, 27] (fun t i wr2 => ∃ j : Nat, j ≤ O.length ∧ i = .int .i64 j ∧ wr2.ownsRow WA.heap.size 138 24 t (exN O c t1 t2 l k j).length (insC wt (exN O c t1 t2 l k j)) ∧ WA.grownBy wr2 none ∧ wr2.heap[wr.heap.size]? = some (.cells L.toArray 138 (0, 0)) ∧ t.ownBlock ≠ some wr.heap.size) (fun _ i _ => O.length - (intOf i).toNat)
      case atStart => exact ⟨0, by omega, rfl, HST.out, grown_trans HG.out (grown_alloc (grown_refl _ _) _), HBN.out, HSN.out⟩
      case round =>
        rename World => wr2
        obtain ⟨j, hj, rfl, hown, hg2, hbl, hnb⟩ := hrel
        have HG2 := hid hg2
        have HOW2 := hid hown
        have HNB := hid hnb
        have hbls := lt_of_block hbl
        obtain ⟨a2, m2, c2, rfl⟩ := own_slice hown
        have em2 := own_len hown
        subst em2
        by_cases hltj : j < O.length
        · have how2 := own_kept HOO.out hg2 (fun g hg => by cases hg)
          obtain ⟨go, rfl, _, _, hgol, hocell⟩ := own_cell how2 (by omega)
          obtain ⟨Q, hQ⟩ : ∃ Q, Q = facL O[j] := ⟨_, rfl⟩
          have HRQ : Hid (wr2.rangeAt go (j * 4) Q) := hid (by rw [hQ]; exact row_range facL_len hocell hltj)
          have hQl : Q.length = 4 := by rw [hQ]; rfl
          have HIQ : Hid ((Try.prog.info? 97).map (·.size) = some Q.length) := hid (by rw [hQl]; exact info_fact)
          have HONQ : Hid (Q.toArray.all (·.oneCell') = true) := hid (all_oneCell_toArray (by rw [hQ]; exact facL_one _))
          have HRQ2 : Hid ((wr2.alloc (.cells Q.toArray 97)).rangeAt wr2.heap.size 0 Q) := hid (range_of_blk (heap_alloc_new wr2 _) rfl)
          have HRL2 : Hid ((wr2.alloc (.cells Q.toArray 97)).rangeAt wr.heap.size 0 L) := hid (range_of_blk ((Below.heap_alloc _ _ _ hbls).trans hbl) rfl)
          have hcb2 := (hg2.block _ hcb (by simp)).trans HCA0.out
          have HRC2 : Hid ((wr2.alloc (.cells Q.toArray 97)).rangeAt cb 0 C) := hid (range_of_blk ((Below.heap_alloc _ _ _ (lt_of_block hcb2)).trans hcb2) rfl)
          have HCJ := hid (HCK.out j hltj)
          rw [← hQ] at HCJ
          have HSJ := hid (HSU.out j hltj)
          have hlen := HLEN.out j
          have hsz2 := hg2.size
          have HBL := hid hbl
          have HLT := hid (fun g hg => (HOW2.out.lt g hg).1)
          have HOWG : Hid (∀ W, wr2.grownBy W none → W.ownsRow WA.heap.size 138 24 (.slice a2 (exN O c t1 t2 l k j).length c2) (exN O c t1 t2 l k j).length (insC wt (exN O c t1 t2 l k j))) := hid (fun W hW => own_kept HOW2.out hW (fun g hg => by cases hg))
          have HVAL : Hid ((∃ R : List Value, R.length = 24 ∧ (∀ u ∈ R, u.oneCell' = true) ∧ withV wt l[k] c t1 t2 O[j] = .tuple #[.agg R.toArray, .bool true] ∧ ∀ (w3 : World) (v' : Value), w3.ownsRow WA.heap.size 138 24 v' ((exN O c t1 t2 l k j).length + 1) (insC wt (exN O c t1 t2 l k j) ++ R) → w3.ownsRow WA.heap.size 138 24 v' (exN O c t1 t2 l k (j + 1)).length (insC wt (exN O c t1 t2 l k (j + 1))))
              ∨ (∃ R : List Value, R.length = 24 ∧ (∀ u ∈ R, u.oneCell' = true) ∧ withV wt l[k] c t1 t2 O[j] = .tuple #[.agg R.toArray, .bool false] ∧ exN O c t1 t2 l k (j + 1) = exN O c t1 t2 l k j)) := hid (by
            unfold withV
            cases hgp : goP l[k].env c t1 t2 O[j] with
            | none =>
              rw [hgp] at HSJ
              exact .inr ⟨inCells wt l[k], rfl, inCells_one _ _, rfl, by rw [HSJ.out]; simp⟩
            | some e =>
              rw [hgp] at HSJ
              refine .inl ⟨inCells wt ⟨l[k].rule, l[k].facts ++ [O[j]], e⟩, rfl, inCells_one _ _, rfl, fun w3 v' h => ?_⟩
              rw [HSJ.out, insC_app, List.length_append]
              simpa [insC] using h)
          obtain ⟨nl, hnl⟩ : ∃ nl, nl = (exN O c t1 t2 l k j).length := ⟨_, rfl⟩
          obtain ⟨xs, hxs⟩ : ∃ xs, xs = insC wt (exN O c t1 t2 l k j) := ⟨_, rfl⟩
          obtain ⟨wv, hwv⟩ : ∃ wv, wv = withV wt l[k] c t1 t2 O[j] := ⟨_, rfl⟩
          rw [← hnl, ← hxs, ← hwv] at HVAL
          rw [← hnl] at HOWG HOW2 HLT HNB hlen ⊢
          rw [← hxs] at HOWG HOW2
          rw [← hwv] at HCJ
          have HNL := hid hnl
          have HXS := hid hxs
          have hne : go ≠ wr2.heap.size := by omega
          clear hnl hxs hwv hQ hown hg2 hbl hnb how2 hocell hcb2 HCK HSU HSJ HLEN HST HSN
          go_wp2_with (first
            | (refine wpList_load_mid rfl 97 (.tmp 29) rfl go (j * 4) rfl Q _ HRQ.out Try.underlying97 rfl HIQ.out ?_)
            | (refine wpList_store_new rfl 97 (.tmp 12) (.tmp 30) rfl _ Q rfl rfl hQl.symm HIQ.out HONQ.out ?_)
            | (refine wpList_load_mid rfl 138 (.tmp 10) rfl wr.heap.size 0 rfl L _ HRL2.out Try.underlying138 rfl HIL.out ?_)
            | (refine wpList_load_mid rfl 163 (.tmp 4) rfl cb 0 rfl C _ HRC2.out Try.underlying163 rfl HIC.out ?_)
            | (refine wpList_load_mid rfl 97 (.tmp 12) rfl wr2.heap.size 0 rfl Q _ HRQ2.out Try.underlying97 rfl HIQ.out ?_))
          go_at_call 85
          refine (HCJ.out _).mono ?_
          rintro e w1 ⟨rfl, hg1⟩
          have HG1 := hid (grown_trans (grown_alloc (grown_refl wr2 none) (.cells Q.toArray 97)) hg1)
          have HBL2 : Hid (w1.heap[wr.heap.size]? = some (.cells L.toArray 138 (0, 0))) := hid (by
            have h5 := (Below.heap_alloc wr2 (.cells Q.toArray 97) _ hbls).trans HBL.out
            exact (hg1.block _ (lt_of_block h5) (by simp)).trans h5)
          have hs1 := lt_of_block HBL2.out
          have hs2 : WA.heap.size ≤ w1.heap.size := by have := HG1.out.size; omega
          clear hg1 HRQ HRQ2 HRL2 HRC2 HBL HCJ
          rcases HVAL.out with ⟨R, hRl, hRo, rfl, hR⟩ | ⟨R, hRl, hRo, rfl, hR⟩
          all_goals
            have HONL := hid hRo
            have HONR : Hid (R.toArray.all (·.oneCell') = true) := hid (all_oneCell_toArray hRo)
            have HIR : Hid ((Try.prog.info? 138).map (·.size) = some R.length) := hid (by rw [hRl]; exact info_inst)
            have HIZ : Hid ((Try.prog.info? 138).map (fun i => (i.zero, i.size)) = some (some (.agg #[.int .i64 0, .int .i64 0, .int .i64 0, .int .i64 0, .int .i64 0, .int .i64 0, .int .i64 0, .int .i64 0, .int .i64 0, .int .i64 0, .int .i64 0, .int .i64 0, .int .i64 0, .int .i64 0, .int .i64 0, .int .i64 0, .bool false, .bool false, .bool false, .bool false, .int .i64 0, .int .i64 0, .int .i64 0, .int .i64 0]), R.length)) := hid (by rw [hRl]; kernel_rfl)
            clear hRo HVAL
          · have HFI := hid hR
            clear hR
            have HRR : Hid ((w1.alloc (.cells R.toArray 138)).rangeAt w1.heap.size 0 R) := hid (range_of_blk (heap_alloc_new w1 _) rfl)
            have how1 := HOWG.out _ (grown_alloc (grown_alloc HG1.out (.cells R.toArray 138)) (.cells R.toArray 138))
            go_wp2_with (first
              | (refine wpList_store_new rfl 138 (.tmp 13) (.tmp 36) rfl _ R rfl rfl hRl.symm HIR.out HONR.out ?_)
              | (refine wpList_load_mid rfl 138 (.tmp 13) rfl w1.heap.size 0 rfl R _ HRR.out Try.underlying138 rfl HIR.out ?_)
              | (refine wpList_build_one rfl 102 138 (.tmp 40) rfl _ R rfl Try.underlying102 HIZ.out (by omega) (by omega) ?_)
              | (at_builtin; refine wpList_append_own_at _ rfl (.tmp 39) (.tmp 41) 102 rfl (WA.heap.size) 138 i0 (.agg #[.int .i64 0, .int .i64 0, .int .i64 0, .int .i64 0, .int .i64 0, .int .i64 0, .int .i64 0, .int .i64 0, .int .i64 0, .int .i64 0, .int .i64 0, .int .i64 0, .int .i64 0, .int .i64 0, .int .i64 0, .int .i64 0, .bool false, .bool false, .bool false, .bool false, .int .i64 0, .int .i64 0, .int .i64 0, .int .i64 0]) 24 168 Try.underlying102 hi0 hz0 hz1 hz2 rfl (by decide) _ _ _ rfl how1 _ 1 1 R rfl (by omega) (fun j u hj => news_at1 hj) HONL.out (by unfold maxLen; omega) (by omega) (by simp; omega) ?_))
            intro v' w3 hown3 hg3 _ hpl
            have HO3 := hid (HFI.out _ _ hown3)
            have HG3 : Hid (WA.grownBy w3 none) := hid (grown_own2 (grown_trans HG2.out (grown_alloc (grown_alloc HG1.out _) _)) hg3 HLT.out)
            have HB3 : Hid (w3.heap[wr.heap.size]? = some (.cells L.toArray 138 (0, 0))) := hid (by
              have h4 := (Below.heap_alloc (w1.alloc (.cells R.toArray 138)) (.cells R.toArray 138) _ (lt_of_block ((Below.heap_alloc w1 (.cells R.toArray 138) _ (lt_of_block HBL2.out)).trans HBL2.out))).trans ((Below.heap_alloc w1 (.cells R.toArray 138) _ (lt_of_block HBL2.out)).trans HBL2.out)
              exact (hg3.block _ (lt_of_block h4) (fun e => HNB.out e.symm)).trans h4)
            have HN3 : Hid (v'.ownBlock ≠ some wr.heap.size) := hid (by
              rcases hpl with h | h
              · rw [h]; exact HNB.out
              · rw [h]
                simp
                omega)
            clear hown3 hg3 hpl
            go_wp2_with fail
            go_roundw
            case rel => exact ⟨j + 1, by omega, by go_num, HO3.out, HG3.out, HB3.out, HN3.out⟩
            case measure => simp [intOf]; omega
          · have HFI : Hid (∀ W, wr2.grownBy W none → W.ownsRow WA.heap.size 138 24 (.slice a2 nl c2) (exN O c t1 t2 l k (j + 1)).length (insC wt (exN O c t1 t2 l k (j + 1)))) := hid (fun W hW => by
              rw [hR, ← HNL.out, ← HXS.out]
              exact HOWG.out W hW)
            clear hR
            have HRR : Hid ((w1.alloc (.cells R.toArray 138)).rangeAt w1.heap.size 0 R) := hid (range_of_blk (heap_alloc_new w1 _) rfl)
            have HB3 : Hid ((w1.alloc (.cells R.toArray 138)).heap[wr.heap.size]? = some (.cells L.toArray 138 (0, 0))) := hid ((Below.heap_alloc w1 (.cells R.toArray 138) _ (lt_of_block HBL2.out)).trans HBL2.out)
            go_wp2_with (first
              | (refine wpList_store_new rfl 138 (.tmp 13) (.tmp 36) rfl _ R rfl rfl hRl.symm HIR.out HONR.out ?_))
            go_roundw
            case rel => exact ⟨j + 1, by omega, by go_num, HFI.out _ (grown_alloc HG1.out _), grown_trans HG2.out (grown_alloc HG1.out _), HB3.out, HNB.out⟩
            case measure => simp [intOf]; omega
        · have ej : j = O.length := by omega
          subst ej
          have HO2 : Hid (wr2.ownsRow WA.heap.size 138 24 (.slice a2 (exN O c t1 t2 l k O.length).length c2) ((l.take (k + 1)).flatMap (onP O c t1 t2)).length (insC wt ((l.take (k + 1)).flatMap (onP O c t1 t2)))) := hid (by
            rw [← HNX.out]
            exact HOW2.out)
          clear hown hg2 hbl hnb HCK HSU HLEN HST HSN HOW2
          go_wp2_with fail
          go_roundw
          case rel => exact ⟨k + 1, by omega, by go_num, HO2.out, HG2.out⟩
          case measure => simp [intOf]; omega
    · have hkl : k = l.length := by omega
      subst hkl
      rw [List.take_length] at HOW
      clear hg hown
      go_wp2_with fail
      go_ret
      exact ⟨_, rfl, own_mono HOW.out (by have := HWA.out.size; omega), grown_trans HWA.out HG.out⟩

end Go.Proofs.Ythlhbjnkohinmaa
