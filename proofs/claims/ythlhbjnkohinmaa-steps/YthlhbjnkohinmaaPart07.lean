import Derived.Test.YthlhbjnkohinmaaPart06
import Derived.Maps.AppendAt
import Derived.Test.YthlhbjnkohinmaaPart02
/- The program's instantiations: over a pattern. -/
namespace Go.Proofs.Ythlhbjnkohinmaa
open Go.RowKit

theorem onP_take (O : List PFact) (c t1 t2 : Int) (i : In) (j : Nat) (hj : j < O.length) : onP (O.take (j + 1)) c t1 t2 i = onP (O.take j) c t1 t2 i ++ ((goP i.env c t1 t2 O[j]).map fun e => (⟨i.rule, i.facts ++ [O[j]], e⟩ : In)).toList := by
  unfold onP
  rw [List.take_succ_eq_append_getElem hj, List.filterMap_append]
  congr 1
theorem flat_take {α β : Type} (f : α → List β) (l : List α) (k : Nat) (hk : k < l.length) : (l.take (k + 1)).flatMap f = (l.take k).flatMap f ++ f l[k] := by
  rw [List.take_succ_eq_append_getElem hk, List.flatMap_append]
  simp
theorem onP_ofCl (F : List PFact) (c t1 t2 : Int) (i : In) : onP (ofCl F (c - 97)) c t1 t2 i = onP F c t1 t2 i := by
  unfold onP ofCl
  rw [List.filterMap_filter]
  congr 1
  funext q
  by_cases h : (q.1 : Int) / 10 = c - 97
  · simp [h]
  · have e : goP i.env c t1 t2 q = none := by
      unfold goP
      rw [if_neg (fun e => h e.symm)]
    simp [h, e]
theorem insC_app (wt : Int) (l m : List In) : insC wt (l ++ m) = insC wt l ++ insC wt m := by simp [insC]
/-- The list so far: k whole ones, and j facts of the next. -/
def exN (O : List PFact) (c t1 t2 : Int) (l : List In) (k j : Nat) : List In := (l.take k).flatMap (onP O c t1 t2) ++ (match l[k]? with | some i => onP (O.take j) c t1 t2 i | none => [])
theorem exN_zero (O : List PFact) (c t1 t2 : Int) (l : List In) (k : Nat) : exN O c t1 t2 l k 0 = (l.take k).flatMap (onP O c t1 t2) := by
  unfold exN
  cases l[k]? <;> simp [onP]
theorem exN_next (O : List PFact) (c t1 t2 : Int) (l : List In) (k : Nat) (hk : k < l.length) : exN O c t1 t2 l k O.length = (l.take (k + 1)).flatMap (onP O c t1 t2) := by
  unfold exN
  rw [List.getElem?_eq_getElem hk, flat_take _ _ _ hk, List.take_length]
theorem exN_succ (O : List PFact) (c t1 t2 : Int) (l : List In) (k : Nat) (hk : k < l.length) (j : Nat) (hj : j < O.length) : exN O c t1 t2 l k (j + 1) = exN O c t1 t2 l k j ++ ((goP l[k].env c t1 t2 O[j]).map fun e => (⟨l[k].rule, l[k].facts ++ [O[j]], e⟩ : In)).toList := by
  unfold exN
  rw [List.getElem?_eq_getElem hk]
  simp only []
  rw [onP_take _ _ _ _ _ _ hj, List.append_assoc]
theorem exN_len (O : List PFact) (c t1 t2 : Int) (l : List In) (k j : Nat) (hO : O.length ≤ 60) (hl : l.length ≤ 3600) : (exN O c t1 t2 l k j).length ≤ 216060 := by
  unfold exN
  have h1 := flatMap_len (m := 60) (fun i => Nat.le_trans (onP_len O c t1 t2 i) hO) (l.take k)
  have h2 : (l.take k).length ≤ 3600 := Nat.le_trans (List.length_take_le' k l) hl
  rw [List.length_append]
  have h3 : (match l[k]? with | some i => onP (O.take j) c t1 t2 i | none => []).length ≤ 60 := by
    cases l[k]? with
    | none => simp
    | some i =>
      simp only []
      have h5 := onP_len (O.take j) c t1 t2 i
      have h6 := List.length_take_le' j O
      omega
  omega

set_option maxRecDepth 20000 in
set_option maxHeartbeats 2000000 in
theorem pextended_any (wt : Int) (l : List In) (la : Option Addr) (lc B : Nat) (kd c g t1 t2 : Int) (F : List PFact) (fa : Option Addr) (fc B2 : Nat) (w : World) (hll : l.length ≤ 3600) (h3 : ∀ i ∈ l, i.facts.length < 3)
    (hrow : w.ownsRow B 138 24 (.slice la l.length lc) l.length (insC wt l)) (h1 : terB t1 = true) (h2 : terB t2 = true) (hFl : F.length ≤ 60) (hfr : w.ownsRow B2 97 4 (.slice fa F.length fc) F.length (fcCells F)) :
    Calls Try.prog 73 #[.slice la l.length lc, condV kd c g t1 t2, .slice fa F.length fc] w fun e w' => ∃ v, e = .returned v ∧ w'.ownsRow w.heap.size 138 24 v (l.flatMap (onP F c t1 t2)).length (insC wt (l.flatMap (onP F c t1 t2))) ∧ w.grownBy w' none := by
  obtain ⟨i0, hi0, hz0, hz1, hz2⟩ := info_parts Try.infoI
  obtain ⟨C, hC⟩ : ∃ C, C = cndL kd c g t1 t2 := ⟨_, rfl⟩
  have hCl : C.length = 7 := by rw [hC]; rfl
  have hCV : condV kd c g t1 t2 = .agg C.toArray := by rw [hC]; rfl
  rw [hCV]
  obtain ⟨O, hO⟩ : ∃ O, O = ofCl F (c - 97) := ⟨_, rfl⟩
  have hOl : O.length ≤ 60 := by rw [hO]; exact Nat.le_trans (ofCl_le _ _) hFl
  have HCALL : Hid (∀ (k : Nat) (hk : k < l.length) (j : Nat) (hj : j < O.length) (W : World), Calls Try.prog 85 #[.agg (inCells wt l[k]).toArray, .agg C.toArray, .agg (facL O[j]).toArray] W fun r w' => r = .returned (withV wt l[k] c t1 t2 O[j]) ∧ W.grownBy w' none) := hid (fun k hk j hj W => by
    rw [hC]
    exact pinst_any wt l[k] kd c g t1 t2 O[j] W (h3 _ (List.getElem_mem hk)) h1 h2)
  have HONP : Hid (l.flatMap (onP F c t1 t2) = l.flatMap (onP O c t1 t2)) := hid (by
    rw [hO]
    congr 1
    funext i
    exact (onP_ofCl F c t1 t2 i).symm)
  rw [HONP.out]
  have HOC : Hid (∀ W, w.grownBy W none → Calls Try.prog 84 #[.slice fa F.length fc, .int .i64 (c - 97)] W fun e w' => ∃ v, e = .returned v ∧ w'.ownsRow W.heap.size 97 4 v O.length (fcCells O) ∧ W.grownBy w' none) := hid (fun W hW => by
    rw [hO]
    exact pofclass_any F (c - 97) fa fc B2 W hFl (own_kept hfr hW (fun g hg => by cases hg)))
  have HROW := hid hrow
  have HBC : Hid ((w.alloc (.cells C.toArray 163)).heap[w.heap.size]? = some (.cells C.toArray 163 (0, 0))) := hid (heap_alloc_new w _)
  have HIC : Hid ((Try.prog.info? 163).map (·.size) = some C.length) := hid (by rw [hCl]; exact info_cond)
  obtain ⟨cv, hcv⟩ : ∃ cv : Int, cv = c - 97 := ⟨_, rfl⟩
  have kc : (w.alloc (.cells C.toArray 163)).cell? ⟨w.heap.size, 1, none⟩ = some (.int .i64 cv) := by
    rw [cell_of_row _ _ _ _ _ _ HBC.out, hC, hcv]
    rfl
  rw [← hcv] at HOC
  clear hrow hC hCV hfr h1 h2 hO HONP hcv hFl h3
  go_enter Try.func73, Try.ntmps73
  go_wp2_with fail
  go_at_call 84
  refine (HOC.out _ (grown_alloc (grown_refl _ _) _)).mono ?_
  rintro e WA ⟨vo, rfl, hoo, hga⟩
  have HWA : Hid (w.grownBy WA none) := hid (grown_trans (grown_alloc (grown_refl _ _) _) hga)
  have HCA0 : Hid (WA.heap[w.heap.size]? = some (.cells C.toArray 163 (0, 0))) := hid ((hga.block _ (lt_of_block HBC.out) (by simp)).trans HBC.out)
  obtain ⟨oa, om, oc, rfl⟩ := own_slice hoo
  have eom := own_len hoo
  subst eom
  have HOO := hid hoo
  have HRA := hid (own_kept HROW.out HWA.out (fun g hg => by cases hg))
  have hcb := lt_of_block HCA0.out
  clear hoo hga HOC HBC kc HROW
  generalize w.heap.size + 1 = bo at HOO
  obtain ⟨cb, hcbe⟩ : ∃ cb, cb = w.heap.size := ⟨_, rfl⟩
  have HCBE := hid hcbe
  rw [← hcbe] at hcb HCA0 ⊢
  clear hcbe
  go_wp2_with fail
  go_loopw [8, 21] (fun t i wr => ∃ k : Nat, k ≤ l.length ∧ i = .int .i64 k ∧ wr.ownsRow WA.heap.size 138 24 t ((l.take k).flatMap (onP O c t1 t2)).length (insC wt ((l.take k).flatMap (onP O c t1 t2))) ∧ WA.grownBy wr none) (fun _ i _ => l.length - (intOf i).toNat)
  case atStart => exact ⟨0, by omega, rfl, World.ownsRow_nil _ _ _ _, grown_refl _ _⟩
  case round =>
    obtain ⟨k, hk, rfl, hown, hg⟩ := hrel
    have HG := hid hg
    have HOW := hid hown
    by_cases hlt : k < l.length
    · have how := own_kept HRA.out hg (fun g hg => by cases hg)
      obtain ⟨gf, rfl, _, _, hgl, hcell⟩ := own_cell how (by omega)
      obtain ⟨L, hL⟩ : ∃ L, L = inCells wt l[k] := ⟨_, rfl⟩
      have HRG : Hid (wr.rangeAt gf (k * 24) L) := hid (by rw [hL]; exact row_range (inCells_len wt) hcell hlt)
      have hLl : L.length = 24 := by rw [hL]; rfl
      have HIL : Hid ((Try.prog.info? 138).map (·.size) = some L.length) := hid (by rw [hLl]; exact info_inst)
      have HONA : Hid (L.toArray.all (·.oneCell') = true) := hid (all_oneCell_toArray (by rw [hL]; exact inCells_one _ _))
      have HBN : Hid ((wr.alloc (.cells L.toArray 138)).heap[wr.heap.size]? = some (.cells L.toArray 138 (0, 0))) := hid (heap_alloc_new wr _)
      have HCK := hid (HCALL.out k hlt)
      rw [← hL] at HCK
      have hsz := hg.size
      have hwl : cb < wr.heap.size := by omega
      obtain ⟨a, m, cc, rfl⟩ := own_slice hown
      have em := own_len hown
      subst em
      have HSU := hid (exN_succ O c t1 t2 l k hlt)
      have HNX := hid (exN_next O c t1 t2 l k hlt)
      have HLEN : Hid (∀ j, (exN O c t1 t2 l k j).length ≤ 216060) := hid (fun j => exN_len O c t1 t2 l k j hOl hll)
      have HST : Hid ((wr.alloc (.cells L.toArray 138)).ownsRow WA.heap.size 138 24 (.slice a ((l.take k).flatMap (onP O c t1 t2)).length cc) (exN O c t1 t2 l k 0).length (insC wt (exN O c t1 t2 l k 0))) := hid (by
        rw [exN_zero]
        exact own_kept HOW.out (grown_alloc (grown_refl wr none) _) (fun g hg => by cases hg))
      have HSN : Hid ((Value.slice a ((l.take k).flatMap (onP O c t1 t2)).length cc).ownBlock ≠ some wr.heap.size) := hid (fun e => by
        have := (HOW.out.lt _ e).2
        omega)
      obtain ⟨n0, hn0⟩ : ∃ n0, n0 = ((l.take k).flatMap (onP O c t1 t2)).length := ⟨_, rfl⟩
      rw [← hn0] at HST HSN ⊢
      have HL := hid hL
      clear hn0 hL how hcell hown hg
      go_wp2_with (first
        | (refine wpList_load_mid rfl 138 (.tmp 23) rfl gf (k * 24) rfl L _ HRG.out Try.underlying138 rfl HIL.out ?_)
        | (refine wpList_store_new rfl 138 (.tmp 10) (.tmp 24) rfl _ L rfl rfl hLl.symm HIL.out HONA.out ?_))
      go_loopw [8, 27] (fun t i wr2 => ∃ j : Nat, j ≤ O.length ∧ i = .int .i64 j ∧ wr2.ownsRow WA.heap.size 138 24 t (exN O c t1 t2 l k j).length (insC wt (exN O c t1 t2 l k j)) ∧ WA.grownBy wr2 none ∧ wr2.heap[wr.heap.size]? = some (.cells L.toArray 138 (0, 0)) ∧ t.ownBlock ≠ some wr.heap.size) (fun _ i _ => O.length - (intOf i).toNat)
      case atStart => exact ⟨0, by omega, rfl, HST.out, grown_trans HG.out (grown_alloc (grown_refl _ _) _), HBN.out, HSN.out⟩
      case round =>
        rename World => wr2
        obtain ⟨j, hj, rfl, hown, hg2, hbl, hnb⟩ := hrel
        have HG2 := hid hg2
        have HOW2 := hid hown
        have HNB := hid hnb
        have hbls := lt_of_block hbl
        obtain ⟨a2, m2, c2, rfl⟩ := own_slice hown
        have em2 := own_len hown
        subst em2
        by_cases hltj : j < O.length
        · have how2 := own_kept HOO.out hg2 (fun g hg => by cases hg)
          obtain ⟨go, rfl, _, _, hgol, hocell⟩ := own_cell how2 (by omega)
          obtain ⟨Q, hQ⟩ : ∃ Q, Q = facL O[j] := ⟨_, rfl⟩
          have HRQ : Hid (wr2.rangeAt go (j * 4) Q) := hid (by rw [hQ]; exact row_range facL_len hocell hltj)
          have hQl : Q.length = 4 := by rw [hQ]; rfl
          have HIQ : Hid ((Try.prog.info? 97).map (·.size) = some Q.length) := hid (by rw [hQl]; exact info_fact)
          have HONQ : Hid (Q.toArray.all (·.oneCell') = true) := hid (all_oneCell_toArray (by rw [hQ]; exact facL_one _))
          have HRQ2 : Hid ((wr2.alloc (.cells Q.toArray 97)).rangeAt wr2.heap.size 0 Q) := hid (range_of_blk (heap_alloc_new wr2 _) rfl)
          have HRL2 : Hid ((wr2.alloc (.cells Q.toArray 97)).rangeAt wr.heap.size 0 L) := hid (range_of_blk ((Below.heap_alloc _ _ _ hbls).trans hbl) rfl)
          have hcb2 := (hg2.block _ hcb (by simp)).trans HCA0.out
          have HRC2 : Hid ((wr2.alloc (.cells Q.toArray 97)).rangeAt cb 0 C) := hid (range_of_blk ((Below.heap_alloc _ _ _ (lt_of_block hcb2)).trans hcb2) rfl)
          have HCJ := hid (HCK.out j hltj)
          rw [← hQ] at HCJ
          have HSJ := hid (HSU.out j hltj)
          have hlen := HLEN.out j
          have hsz2 := hg2.size
          have HBL := hid hbl
          have HLT := hid (fun g hg => (HOW2.out.lt g hg).1)
          have HOWG : Hid (∀ W, wr2.grownBy W none → W.ownsRow WA.heap.size 138 24 (.slice a2 (exN O c t1 t2 l k j).length c2) (exN O c t1 t2 l k j).length (insC wt (exN O c t1 t2 l k j))) := hid (fun W hW => own_kept HOW2.out hW (fun g hg => by cases hg))
          have HVAL : Hid ((∃ R : List Value, R.length = 24 ∧ (∀ u ∈ R, u.oneCell' = true) ∧ withV wt l[k] c t1 t2 O[j] = .tuple #[.agg R.toArray, .bool true] ∧ ∀ (w3 : World) (v' : Value), w3.ownsRow WA.heap.size 138 24 v' ((exN O c t1 t2 l k j).length + 1) (insC wt (exN O c t1 t2 l k j) ++ R) → w3.ownsRow WA.heap.size 138 24 v' (exN O c t1 t2 l k (j + 1)).length (insC wt (exN O c t1 t2 l k (j + 1))))
              ∨ (∃ R : List Value, R.length = 24 ∧ (∀ u ∈ R, u.oneCell' = true) ∧ withV wt l[k] c t1 t2 O[j] = .tuple #[.agg R.toArray, .bool false] ∧ exN O c t1 t2 l k (j + 1) = exN O c t1 t2 l k j)) := hid (by
            unfold withV
            cases hgp : goP l[k].env c t1 t2 O[j] with
            | none =>
              rw [hgp] at HSJ
              exact .inr ⟨inCells wt l[k], rfl, inCells_one _ _, rfl, by rw [HSJ.out]; simp⟩
            | some e =>
              rw [hgp] at HSJ
              refine .inl ⟨inCells wt ⟨l[k].rule, l[k].facts ++ [O[j]], e⟩, rfl, inCells_one _ _, rfl, fun w3 v' h => ?_⟩
              rw [HSJ.out, insC_app, List.length_append]
              simpa [insC] using h)
          obtain ⟨nl, hnl⟩ : ∃ nl, nl = (exN O c t1 t2 l k j).length := ⟨_, rfl⟩
          obtain ⟨xs, hxs⟩ : ∃ xs, xs = insC wt (exN O c t1 t2 l k j) := ⟨_, rfl⟩
          obtain ⟨wv, hwv⟩ : ∃ wv, wv = withV wt l[k] c t1 t2 O[j] := ⟨_, rfl⟩
          rw [← hnl, ← hxs, ← hwv] at HVAL
          rw [← hnl] at HOWG HOW2 HLT HNB hlen ⊢
          rw [← hxs] at HOWG HOW2
          rw [← hwv] at HCJ
          have HNL := hid hnl
          have HXS := hid hxs
          have hne : go ≠ wr2.heap.size := by omega
          clear hnl hxs hwv hQ hown hg2 hbl hnb how2 hocell hcb2 HCK HSU HSJ HLEN HST HSN
          go_wp2_with (first
            | (refine wpList_load_mid rfl 97 (.tmp 29) rfl go (j * 4) rfl Q _ HRQ.out Try.underlying97 rfl HIQ.out ?_)
            | (refine wpList_store_new rfl 97 (.tmp 12) (.tmp 30) rfl _ Q rfl rfl hQl.symm HIQ.out HONQ.out ?_)
            | (refine wpList_load_mid rfl 138 (.tmp 10) rfl wr.heap.size 0 rfl L _ HRL2.out Try.underlying138 rfl HIL.out ?_)
            | (refine wpList_load_mid rfl 163 (.tmp 4) rfl cb 0 rfl C _ HRC2.out Try.underlying163 rfl HIC.out ?_)
            | (refine wpList_load_mid rfl 97 (.tmp 12) rfl wr2.heap.size 0 rfl Q _ HRQ2.out Try.underlying97 rfl HIQ.out ?_))
          go_at_call 85
          refine (HCJ.out _).mono ?_
          rintro e w1 ⟨rfl, hg1⟩
          have HG1 := hid (grown_trans (grown_alloc (grown_refl wr2 none) (.cells Q.toArray 97)) hg1)
          have HBL2 : Hid (w1.heap[wr.heap.size]? = some (.cells L.toArray 138 (0, 0))) := hid (by
            have h5 := (Below.heap_alloc wr2 (.cells Q.toArray 97) _ hbls).trans HBL.out
            exact (hg1.block _ (lt_of_block h5) (by simp)).trans h5)
          have hs1 := lt_of_block HBL2.out
          have hs2 : WA.heap.size ≤ w1.heap.size := by have := HG1.out.size; omega
          clear hg1 HRQ HRQ2 HRL2 HRC2 HBL HCJ
          rcases HVAL.out with ⟨R, hRl, hRo, rfl, hR⟩ | ⟨R, hRl, hRo, rfl, hR⟩
          all_goals
            have HONL := hid hRo
            have HONR : Hid (R.toArray.all (·.oneCell') = true) := hid (all_oneCell_toArray hRo)
            have HIR : Hid ((Try.prog.info? 138).map (·.size) = some R.length) := hid (by rw [hRl]; exact info_inst)
            have HIZ : Hid ((Try.prog.info? 138).map (fun i => (i.zero, i.size)) = some (some (.agg #[.int .i64 0, .int .i64 0, .int .i64 0, .int .i64 0, .int .i64 0, .int .i64 0, .int .i64 0, .int .i64 0, .int .i64 0, .int .i64 0, .int .i64 0, .int .i64 0, .int .i64 0, .int .i64 0, .int .i64 0, .int .i64 0, .bool false, .bool false, .bool false, .bool false, .int .i64 0, .int .i64 0, .int .i64 0, .int .i64 0]), R.length)) := hid (by rw [hRl]; kernel_rfl)
            clear hRo HVAL
          · have HFI := hid hR
            clear hR
            have HRR : Hid ((w1.alloc (.cells R.toArray 138)).rangeAt w1.heap.size 0 R) := hid (range_of_blk (heap_alloc_new w1 _) rfl)
            have how1 := HOWG.out _ (grown_alloc (grown_alloc HG1.out (.cells R.toArray 138)) (.cells R.toArray 138))
            go_wp2_with (first
              | (refine wpList_store_new rfl 138 (.tmp 13) (.tmp 36) rfl _ R rfl rfl hRl.symm HIR.out HONR.out ?_)
              | (refine wpList_load_mid rfl 138 (.tmp 13) rfl w1.heap.size 0 rfl R _ HRR.out Try.underlying138 rfl HIR.out ?_)
              | (refine wpList_build_one rfl 102 138 (.tmp 40) rfl _ R rfl Try.underlying102 HIZ.out (by omega) (by omega) ?_)
              | (at_builtin; refine wpList_append_own_at _ rfl (.tmp 39) (.tmp 41) 102 rfl (WA.heap.size) 138 i0 (.agg #[.int .i64 0, .int .i64 0, .int .i64 0, .int .i64 0, .int .i64 0, .int .i64 0, .int .i64 0, .int .i64 0, .int .i64 0, .int .i64 0, .int .i64 0, .int .i64 0, .int .i64 0, .int .i64 0, .int .i64 0, .int .i64 0, .bool false, .bool false, .bool false, .bool false, .int .i64 0, .int .i64 0, .int .i64 0, .int .i64 0]) 24 168 Try.underlying102 hi0 hz0 hz1 hz2 rfl (by decide) _ _ _ rfl how1 _ 1 1 R rfl (by omega) (fun j u hj => news_at1 hj) HONL.out (by unfold maxLen; omega) (by omega) (by simp; omega) ?_))
            intro v' w3 hown3 hg3 _ hpl
            have HO3 := hid (HFI.out _ _ hown3)
            have HG3 : Hid (WA.grownBy w3 none) := hid (grown_own2 (grown_trans HG2.out (grown_alloc (grown_alloc HG1.out _) _)) hg3 HLT.out)
            have HB3 : Hid (w3.heap[wr.heap.size]? = some (.cells L.toArray 138 (0, 0))) := hid (by
              have h4 := (Below.heap_alloc (w1.alloc (.cells R.toArray 138)) (.cells R.toArray 138) _ (lt_of_block ((Below.heap_alloc w1 (.cells R.toArray 138) _ (lt_of_block HBL2.out)).trans HBL2.out))).trans ((Below.heap_alloc w1 (.cells R.toArray 138) _ (lt_of_block HBL2.out)).trans HBL2.out)
              exact (hg3.block _ (lt_of_block h4) (fun e => HNB.out e.symm)).trans h4)
            have HN3 : Hid (v'.ownBlock ≠ some wr.heap.size) := hid (by
              rcases hpl with h | h
              · rw [h]; exact HNB.out
              · rw [h]
                simp
                omega)
            clear hown3 hg3 hpl
            go_wp2_with fail
            go_roundw
            case rel => exact ⟨j + 1, by omega, by go_num, HO3.out, HG3.out, HB3.out, HN3.out⟩
            case measure => simp [intOf]; omega
          · have HFI : Hid (∀ W, wr2.grownBy W none → W.ownsRow WA.heap.size 138 24 (.slice a2 nl c2) (exN O c t1 t2 l k (j + 1)).length (insC wt (exN O c t1 t2 l k (j + 1)))) := hid (fun W hW => by
              rw [hR, ← HNL.out, ← HXS.out]
              exact HOWG.out W hW)
            clear hR
            have HRR : Hid ((w1.alloc (.cells R.toArray 138)).rangeAt w1.heap.size 0 R) := hid (range_of_blk (heap_alloc_new w1 _) rfl)
            have HB3 : Hid ((w1.alloc (.cells R.toArray 138)).heap[wr.heap.size]? = some (.cells L.toArray 138 (0, 0))) := hid ((Below.heap_alloc w1 (.cells R.toArray 138) _ (lt_of_block HBL2.out)).trans HBL2.out)
            go_wp2_with (first
              | (refine wpList_store_new rfl 138 (.tmp 13) (.tmp 36) rfl _ R rfl rfl hRl.symm HIR.out HONR.out ?_))
            go_roundw
            case rel => exact ⟨j + 1, by omega, by go_num, HFI.out _ (grown_alloc HG1.out _), grown_trans HG2.out (grown_alloc HG1.out _), HB3.out, HNB.out⟩
            case measure => simp [intOf]; omega
        · have ej : j = O.length := by omega
          subst ej
          have HO2 : Hid (wr2.ownsRow WA.heap.size 138 24 (.slice a2 (exN O c t1 t2 l k O.length).length c2) ((l.take (k + 1)).flatMap (onP O c t1 t2)).length (insC wt ((l.take (k + 1)).flatMap (onP O c t1 t2)))) := hid (by
            rw [← HNX.out]
            exact HOW2.out)
          clear hown hg2 hbl hnb HCK HSU HLEN HST HSN HOW2
          go_wp2_with fail
          go_roundw
          case rel => exact ⟨k + 1, by omega, by go_num, HO2.out, HG2.out⟩
          case measure => simp [intOf]; omega
    · have hkl : k = l.length := by omega
      subst hkl
      rw [List.take_length] at HOW
      clear hg hown
      go_wp2_with fail
      go_ret
      exact ⟨_, rfl, own_mono HOW.out (by have := HWA.out.size; omega), grown_trans HWA.out HG.out⟩

end Go.Proofs.Ythlhbjnkohinmaa

/- The program's memory: the place of an instantiation; nothing is fired where there are no marks. -/
namespace Go.Proofs.Ythlhbjnkohinmaa
open Go.RowKit

/-- Digits as a number. -/
def plD (f : Nat → Int) : Nat → Int
  | 0 => 0
  | k + 1 => plD f k * 10 + f k
theorem plD_bd {f : Nat → Int} (hf : ∀ k, 0 ≤ f k ∧ f k ≤ 9) (n : Nat) (hn : n ≤ 3) : 0 ≤ plD f n ∧ plD f n ≤ 999 := by
  have h0 := hf 0
  have h1 := hf 1
  have h2 := hf 2
  match n, hn with
  | 0, _ => simp [plD]
  | 1, _ => simp only [plD]; omega
  | 2, _ => simp only [plD]; omega
  | 3, _ => simp only [plD]; omega
def dgA (l : List PFact) (k : Nat) : Int := ((ftA l k).1 : Int) % 10
theorem dgA_bd (l : List PFact) (k : Nat) : 0 ≤ dgA l k ∧ dgA l k ≤ 9 := by unfold dgA; omega
/-- Where the mark of an instantiation stands. -/
def plcI (i : In) : Int := i.rule * 1000 + plD (dgA i.facts) i.facts.length

set_option maxRecDepth 20000 in
set_option maxHeartbeats 1000000 in
theorem pplace_cells (L : List Value) (r n : Nat) (f : Nat → Int) (w : World) (hr : r < 9) (hn : n ≤ 3) (hf : ∀ k, 0 ≤ f k ∧ f k ≤ 9) (k0 : L[0]? = some (.int .i64 r)) (k3 : L[3]? = some (.int .i64 n)) (kd : ∀ k, k < 3 → L[4 + k * 4 + 1]? = some (.int .i64 (f k))) :
    Calls Try.prog 76 #[.agg L.toArray] w fun e w' => e = .returned (.tuple #[.int .i64 (r * 1000 + plD f n), .bool true]) ∧ w.grownBy w' none := by
  have hb : (w.alloc (.cells L.toArray 138)).heap[w.heap.size]? = some (.cells L.toArray 138 (0, 0)) := heap_alloc_new w _
  have c0 : (w.alloc (.cells L.toArray 138)).cell? ⟨w.heap.size, 0, none⟩ = some (.int .i64 r) := cell_list hb k0
  have c3 : (w.alloc (.cells L.toArray 138)).cell? ⟨w.heap.size, 3, none⟩ = some (.int .i64 n) := cell_list hb k3
  have HD : Hid (∀ k, k < 3 → (w.alloc (.cells L.toArray 138)).cell? ⟨w.heap.size, 4 + k * 4 + 1, none⟩ = some (.int .i64 (f k))) := hid (fun k hk => cell_list hb (kd k hk))
  have HF := hid hf
  have HG : Hid (w.grownBy (w.alloc (.cells L.toArray 138)) none) := hid (grown_alloc (grown_refl _ _) _)
  obtain ⟨res, hres⟩ : ∃ res : Int, res = r * 1000 + plD f n := ⟨_, rfl⟩
  rw [← hres]
  have HRES := hid hres
  clear hb k0 k3 kd hf hres
  go_enter Try.func76, Try.ntmps76
  go_wp2_with fail
  generalize w.alloc (.cells L.toArray 138) = W at c0 c3 HD HG ⊢
  generalize w.heap.size = b at c0 c3 HD ⊢
  go_loop [4, 5] (fun t i => ∃ k : Nat, k ≤ n ∧ i = .int .i64 k ∧ t = .int .i64 (plD f k)) (fun _ i => n - (intOf i).toNat)
  case atStart => exact ⟨0, by omega, rfl, rfl⟩
  case round =>
    obtain ⟨k, hk, rfl, rfl⟩ := hrel
    have hp := plD_bd HF.out k (by omega)
    by_cases hlt : k < n
    · have d := HD.out k (by omega)
      have hfk := HF.out k
      have hk3 : (k : Int) < 3 := by omega
      have hk0 : (0 : Int) ≤ (k : Int) := by omega
      have HS : Hid (plD f (k + 1) = plD f k * 10 + f k) := hid rfl
      obtain ⟨pv, hpv⟩ : ∃ pv, pv = plD f k := ⟨_, rfl⟩
      obtain ⟨fk, hfk'⟩ : ∃ fk, fk = f k := ⟨_, rfl⟩
      rw [← hpv, ← hfk'] at HS
      rw [← hpv] at hp ⊢
      rw [← hfk'] at hfk d
      clear hpv hfk'
      go_wp2_with fail
      go_round
      case rel => exact ⟨k + 1, by omega, by go_num, by rw [HS.out]⟩
      case measure => simp [intOf]; omega
    · have e : k = n := by omega
      subst e
      obtain ⟨pv, hpv⟩ : ∃ pv, pv = plD f k := ⟨_, rfl⟩
      rw [← hpv] at hp HRES ⊢
      clear hpv
      go_wp2_with fail
      go_ret2
      exact ⟨by rw [HRES.out]; rfl, HG.out⟩
theorem pplace_any (wt : Int) (i : In) (w : World) (hr : i.rule < 9) (hl : i.facts.length ≤ 3) :
    Calls Try.prog 76 #[.agg (inCells wt i).toArray] w fun e w' => e = .returned (.tuple #[.int .i64 (plcI i), .bool true]) ∧ w.grownBy w' none :=
  pplace_cells (inCells wt i) i.rule i.facts.length (dgA i.facts) w hr hl (dgA_bd i.facts) rfl rfl (fun k hk => by
    match k, hk with
    | 0, _ => rfl
    | 1, _ => rfl
    | 2, _ => rfl)

set_option maxRecDepth 20000 in
set_option maxHeartbeats 1000000 in
theorem phas_none (wt : Int) (i : In) (x o : Nat) (w : World) (hr : i.rule < 9) (hl : i.facts.length ≤ 3) (hm : w.cell? ⟨x, o, none⟩ = some (.slice none 0 0)) :
    Calls Try.prog 58 #[.pointer (some ⟨x, o, none⟩), .agg (inCells wt i).toArray] w fun e w' => e = .returned (.bool false) ∧ w.grownBy w' none := by
  have HP : Hid (∀ W, Calls Try.prog 76 #[.agg (inCells wt i).toArray] W fun e w' => e = .returned (.tuple #[.int .i64 (plcI i), .bool true]) ∧ W.grownBy w' none) := hid (fun W => pplace_any wt i W hr hl)
  have hp : 0 ≤ plcI i ∧ plcI i ≤ 8999 := by
    have := plD_bd (dgA_bd i.facts) i.facts.length hl
    unfold plcI
    omega
  obtain ⟨L, hL⟩ : ∃ L, L = inCells wt i := ⟨_, rfl⟩
  have hLl : L.length = 24 := by rw [hL]; rfl
  rw [← hL] at HP ⊢
  obtain ⟨pv, hpv⟩ : ∃ pv, pv = plcI i := ⟨_, rfl⟩
  rw [← hpv] at HP hp
  have HIL : Hid ((Try.prog.info? 138).map (·.size) = some L.length) := hid (by rw [hLl]; exact info_inst)
  have HRL : Hid ((w.alloc (.cells L.toArray 138)).rangeAt w.heap.size 0 L) := hid (range_of_blk (heap_alloc_new w _) rfl)
  have HM := hid hm
  clear hL hpv hm
  go_enter Try.func58, Try.ntmps58
  go_wp2_with (first
    | (refine wpList_load_mid rfl 138 (.tmp 3) rfl w.heap.size 0 rfl L _ HRL.out Try.underlying138 rfl HIL.out ?_))
  go_at_call 76
  refine (HP.out _).mono ?_
  rintro e w1 ⟨rfl, hg1⟩
  have HG1 := hid (grown_trans (grown_alloc (grown_refl w none) _) hg1)
  have hm1 := grown_cell HG1.out HM.out
  have hp0 := hp.1
  clear hg1
  go_wp2_with fail
  go_ret
  exact ⟨rfl, HG1.out⟩

end Go.Proofs.Ythlhbjnkohinmaa

/- The program's instantiations: of one rule. -/
namespace Go.Proofs.Ythlhbjnkohinmaa
open Go.RowKit

/-- The instantiations over the first k conditions. -/
def insK (s : ByteArray) (F : List PFact) (r : Nat) (L : List Nat) (k : Nat) : List In := (L.take k).foldl (onC 0 s F) [In.start r]
theorem insK_succ (s : ByteArray) (F : List PFact) (r : Nat) (L : List Nat) (k : Nat) (hk : k < L.length) : insK s F r L (k + 1) = onC 0 s F (insK s F r L k) L[k] := by
  unfold insK
  rw [List.take_succ_eq_append_getElem hk, List.foldl_append]
  rfl
theorem insK_all (s : ByteArray) (F : List PFact) (r : Nat) (L : List Nat) : insK s F r L L.length = instR 0 s F r L := by
  unfold insK instR
  rw [List.take_length]
theorem cls33 {c : Int} (h : clsB c = true) : c ≠ 33 := by intro e; subst e; simp [clsB] at h
theorem patCount_take (s : ByteArray) (L : List Nat) (k : Nat) (hk : k < L.length) : patCount s (L.take (k + 1)) = patCount s (L.take k) + (if (cdV s L[k]).k = 1 then 1 else 0) := by
  unfold patCount
  rw [List.take_succ_eq_append_getElem hk, List.filter_append, List.length_append]
  congr 1
  simp only [List.filter_cons, List.filter_nil]
  by_cases h : (cdV s L[k]).k = 1 <;> simp [h]
theorem patCount_sub (s : ByteArray) (L : List Nat) (k : Nat) : patCount s (L.take k) ≤ patCount s L := by
  unfold patCount
  exact List.Sublist.length_le ((List.take_sublist k L).filter _)
/-- How many there are, and of how many facts each, by the patterns that were met. -/
theorem insK_len {s : ByteArray} {F : List PFact} (hF : F.length ≤ 60) (r : Nat) {L : List Nat} (hL : ∀ p ∈ L, cdOk s p = true) : ∀ k, k ≤ L.length → (insK s F r L k).length ≤ 60 ^ patCount s (L.take k) ∧ ∀ i ∈ insK s F r L k, i.facts.length = patCount s (L.take k) ∧ i.rule = r
  | 0, _ => by simp [insK, patCount, In.start]
  | k + 1, hk => by
    obtain ⟨h1, h2⟩ := insK_len hF r hL k (by omega)
    have hlt : k < L.length := by omega
    have hok := hL _ (List.getElem_mem hlt)
    have hck := cls_kind hok
    rw [insK_succ s F r L k hlt, patCount_take s L k hlt]
    unfold onC
    by_cases h33 : bt s L[k] = 33
    · have hc : clsB (bt s L[k]) = false := by rw [h33]; rfl
      rw [if_pos h33, if_neg (by rw [hck, hc]; simp)]
      exact ⟨Nat.le_trans (List.length_filter_le _ _) h1, fun i hi => h2 i (List.mem_filter.mp hi).1⟩
    · rw [if_neg h33]
      by_cases hc : clsB (bt s L[k]) = true
      · rw [if_pos hc, if_pos (hck.mpr hc)]
        refine ⟨?_, fun i hi => ?_⟩
        · have := flatMap_len (m := 60) (fun i => Nat.le_trans (onP_len F (bt s L[k]) (bt s (L[k] + 1)) (bt s (L[k] + 2)) i) hF) (insK s F r L k)
          rw [Nat.pow_succ]
          exact Nat.le_trans this (Nat.mul_le_mul_right 60 h1)
        · obtain ⟨j, hj, hm⟩ := List.mem_flatMap.mp hi
          unfold onP at hm
          obtain ⟨q, _, hq⟩ := List.mem_filterMap.mp hm
          cases hg : goP j.env (bt s L[k]) (bt s (L[k] + 1)) (bt s (L[k] + 2)) q with
          | none => rw [hg] at hq; cases hq
          | some e =>
            rw [hg] at hq
            simp only [Option.map_some, Option.some.injEq] at hq
            rw [← hq]
            have := h2 j hj
            simp [this]
      · rw [if_neg hc, if_neg (by rw [hck]; exact hc)]
        exact ⟨Nat.le_trans (List.length_filter_le _ _) h1, fun i hi => h2 i (List.mem_filter.mp hi).1⟩
theorem insK_le {s : ByteArray} {F : List PFact} (hF : F.length ≤ 60) (r : Nat) {L : List Nat} (hL : ∀ p ∈ L, cdOk s p = true) (hp : patCount s L ≤ 3) (k : Nat) (hk : k ≤ L.length) : (insK s F r L k).length ≤ 216000 := by
  have h1 := (insK_len hF r hL k hk).1
  have h2 := patCount_sub s L k
  have h3 : 60 ^ patCount s (L.take k) ≤ 60 ^ 3 := Nat.pow_le_pow_right (by omega) (by omega)
  omega
theorem insK_pat {s : ByteArray} {F : List PFact} (hF : F.length ≤ 60) (r : Nat) {L : List Nat} (hL : ∀ p ∈ L, cdOk s p = true) (hp : patCount s L ≤ 3) (k : Nat) (hk : k < L.length) (hc : clsB (bt s L[k]) = true) : (insK s F r L k).length ≤ 3600 ∧ ∀ i ∈ insK s F r L k, i.facts.length < 3 := by
  obtain ⟨h1, h2⟩ := insK_len hF r hL k (by omega)
  have h4 := patCount_sub s L (k + 1)
  have hok := hL _ (List.getElem_mem hk)
  rw [patCount_take s L k hk, if_pos ((cls_kind hok).mpr hc)] at h4
  have h3 : 60 ^ patCount s (L.take k) ≤ 60 ^ 2 := Nat.pow_le_pow_right (by omega) (by omega)
  refine ⟨by omega, fun i hi => ?_⟩
  have := (h2 i hi).1
  omega

/-- A condition's cells. -/
def cdL (s : ByteArray) (p : Nat) : List Value := [.int .i64 (cdV s p).k, .int .i64 (cdV s p).c, .int .u8 (cdV s p).g, .int .i64 (cdV s p).a1, .int .i64 (cdV s p).a2, .int .i64 (cdV s p).b1, .int .i64 (cdV s p).b2]
theorem cdL_len (s : ByteArray) (p : Nat) : (cdL s p).length = 7 := rfl
theorem cdL_one (s : ByteArray) (p : Nat) : ∀ v ∈ cdL s p, v.oneCell' = true := by
  intro v hv
  simp only [cdL, List.mem_cons, List.not_mem_nil, or_false] at hv
  rcases hv with h | h | h | h | h | h | h <;> rw [h] <;> rfl
theorem cdL_neg {s : ByteArray} {p : Nat} (h : bt s p = 33) : .agg (cdL s p).toArray = condV 2 (bt s (p + 1)) 0 (bt s (p + 2)) (bt s (p + 3)) ∧ (cdV s p).k = 2 := by
  have e : cdV s p = patV 2 s (p + 1) := by simp [cdV, h]
  unfold cdL
  rw [e]
  exact ⟨rfl, rfl⟩
theorem cdL_pat {s : ByteArray} {p : Nat} (h : clsB (bt s p) = true) : .agg (cdL s p).toArray = condV 1 (bt s p) 0 (bt s (p + 1)) (bt s (p + 2)) ∧ (cdV s p).k = 1 := by
  have e : cdV s p = patV 1 s p := by simp [cdV, cls33 h, h]
  unfold cdL
  rw [e]
  exact ⟨rfl, rfl⟩
theorem cdL_tst {s : ByteArray} {p : Nat} (h33 : bt s p ≠ 33) (h : clsB (bt s p) = false) : .agg (cdL s p).toArray = testV 3 0 (bt s (p + 1)) (bt s p) (bt s (p + 2)) ∧ (cdV s p).k = 3 := by
  have e : cdV s p = tstV s p := by simp [cdV, h33, h]
  unfold cdL
  rw [e]
  exact ⟨rfl, rfl⟩
theorem cdOk_neg {s : ByteArray} {p : Nat} (hok : cdOk s p = true) (h : bt s p = 33) : terB (bt s (p + 2)) = true ∧ terB (bt s (p + 3)) = true := by
  unfold cdOk at hok
  rw [if_pos h] at hok
  unfold patLen at hok
  split at hok
  · split at hok
    · split at hok
      · rename_i h1 h2; exact ⟨h1, h2⟩
      · simp at hok
    · simp at hok
  · simp at hok
theorem cdOk_pat {s : ByteArray} {p : Nat} (hok : cdOk s p = true) (h : clsB (bt s p) = true) : terB (bt s (p + 1)) = true ∧ terB (bt s (p + 2)) = true := by
  unfold cdOk at hok
  rw [if_neg (cls33 h), if_pos h] at hok
  unfold patLen at hok
  split at hok
  · split at hok
    · split at hok
      · rename_i h1 h2; exact ⟨h1, h2⟩
      · simp at hok
    · simp at hok
  · rename_i h9
    exact absurd h h9
theorem cdOk_tst {s : ByteArray} {p : Nat} (hok : cdOk s p = true) (h33 : bt s p ≠ 33) (h : clsB (bt s p) = false) : simB (bt s p) = true ∧ sgnB (bt s (p + 1)) = true ∧ simB (bt s (p + 2)) = true := by
  unfold cdOk at hok
  rw [if_neg h33, h, if_neg (by simp)] at hok
  unfold tstLen at hok
  split at hok
  · split at hok
    · split at hok
      · rename_i h1 h2 h3; exact ⟨h1, h2, h3⟩
      · simp at hok
    · simp at hok
  · simp at hok

end Go.Proofs.Ythlhbjnkohinmaa
