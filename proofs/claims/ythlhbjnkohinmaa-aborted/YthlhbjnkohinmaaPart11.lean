import Derived.Test.YthlhbjnkohinmaaPart10
/- The program's actions: what they come to, the walk. -/
namespace Go.Proofs.Ythlhbjnkohinmaa
open Go.RowKit

theorem Try.infoX : (Try.prog.info? 177).map (fun i => (i.zero, i.size, i.bytes)) = some (some (.agg #[.int .i64 0, .bool false, .int .i64 0]), 3, 24) := by kernel_rfl
theorem own_setc {w : World} {B : Nat} {e t : TypeId} {size : Nat} {v : Value} {n : Nat} {xs : List Value} {g : Nat} {cs : Array Value} (h : w.ownsRow B e size v n xs) (hb : w.heap[g]? = some (.cells cs t (0, 0))) (ht : e ≠ t) (i : Nat) (u : Value) : (w.setCell ⟨g, i, none⟩ u).ownsRow B e size v n xs :=
  own_kept h (grown_set (grown_refl w (some g)) (.inl rfl) u) (fun g' hg => by
    cases hg
    exact ⟨cs, t, hb, ht⟩)
/-- What WorkOut answers. -/
def WorkAns (w : World) (o : Option (List (Nat × Option Int) × Bool)) (e : Ending) (w' : World) : Prop := match o with
  | some q => ∃ v, e = .returned (.tuple #[.agg #[v, .bool q.2], .bool true]) ∧ w'.ownsRow w.heap.size 177 3 v q.1.length (efC q.1)
  | none => e = .returned (.tuple #[.agg #[.slice none 0 0, .bool false], .bool false])

set_option maxRecDepth 20000 in
set_option maxHeartbeats 2000000 in
theorem pwork_any (s : ByteArray) (R : List RuleP) (ra : Option Addr) (rc B : Nat) (wt : Int) (i : In) (w : World) (hr : i.rule < R.length) (hrow : RulesOwn w B s (.slice ra R.length rc) R) (hK : ∀ p ∈ R[i.rule].2.2, acOk s p = true) (hKl : R[i.rule].2.2.length ≤ 400) (he : ∀ n v, i.env n = some v → 0 ≤ v ∧ v ≤ 9) :
    Calls Try.prog 62 #[.slice ra R.length rc, .agg (inCells wt i).toArray] w fun e w' => WorkAns w (outA s i.env R[i.rule].2.2) e w' ∧ w.grownBy w' none := by
  obtain ⟨i0, hi0, hz0, hz1, hz2⟩ := info_parts Try.infoX
  obtain ⟨xs0, hrow1, hpar⟩ := hrow
  obtain ⟨a1, m1, c1, a2, m2, c2, x0, x1, x2, o1, o2⟩ := Parts_at R xs0 hpar i.rule hr
  have em2 := own_len o2
  subst em2
  obtain ⟨gr, hra, _, _, hgr, hrcell⟩ := own_cell hrow1 (by omega)
  subst hra
  obtain ⟨K, hKK⟩ : ∃ K, K = R[i.rule].2.2 := ⟨_, rfl⟩
  rw [← hKK] at x2 o2 hK hKl ⊢
  obtain ⟨L, hL⟩ : ∃ L, L = inCells wt i := ⟨_, rfl⟩
  rw [← hL]
  have hLl : L.length = 24 := by rw [hL]; rfl
  obtain ⟨D, hD⟩ : ∃ D, D = L.drop 16 := ⟨_, rfl⟩
  have hDD : D = digL i.env := by rw [hD, hL]; rfl
  have hDl : D.length = 8 := by rw [hD]; simp [hLl]
  have HID : Hid ((Try.prog.info? 136).map (·.size) = some D.length) := hid (by rw [hDl]; exact info_dig)
  have HDR : Hid (∀ W : World, W.heap[w.heap.size]? = some (.cells L.toArray 138 (0, 0)) → W.rangeAt w.heap.size 16 D) := hid (fun W h => range_drop h (fun j v hv => by rw [hD, List.getElem?_drop] at hv; exact hv))
  have hb0 : (((w.alloc (.cells L.toArray 138)).alloc (.cells #[.slice none 0 0, .bool false] 147)).alloc (.cells #[.slice none 0 0, .bool false] 147)).heap[w.heap.size]? = some (.cells L.toArray 138 (0, 0)) := by
    rw [Below.heap_alloc _ _ _ (by simp; omega), Below.heap_alloc _ _ _ (by simp)]
    exact heap_alloc_new w _
  have hb1 : (((w.alloc (.cells L.toArray 138)).alloc (.cells #[.slice none 0 0, .bool false] 147)).alloc (.cells #[.slice none 0 0, .bool false] 147)).heap[w.heap.size + 1]? = some (.cells #[.slice none 0 0, .bool false] 147 (0, 0)) := by
    rw [Below.heap_alloc _ _ _ (by simp)]
    exact pblk_at (by simp)
  have hb2 : (((w.alloc (.cells L.toArray 138)).alloc (.cells #[.slice none 0 0, .bool false] 147)).alloc (.cells #[.slice none 0 0, .bool false] 147)).heap[w.heap.size + 1 + 1]? = some (.cells #[.slice none 0 0, .bool false] 147 (0, 0)) := pblk_at (by simp)
  obtain ⟨rl, hrl⟩ : ∃ rl, rl = i.rule := ⟨_, rfl⟩
  rw [← hrl] at x2 hr
  have k0 : (((w.alloc (.cells L.toArray 138)).alloc (.cells #[.slice none 0 0, .bool false] 147)).alloc (.cells #[.slice none 0 0, .bool false] 147)).cell? ⟨w.heap.size, 0, none⟩ = some (.int .i64 rl) := cell_list hb0 (by rw [hL, hrl]; rfl)
  have hgw : w.grownBy (((w.alloc (.cells L.toArray 138)).alloc (.cells #[.slice none 0 0, .bool false] 147)).alloc (.cells #[.slice none 0 0, .bool false] 147)) none := grown_alloc (grown_alloc (grown_alloc (grown_refl _ _) _) _) _
  have d2 : (((w.alloc (.cells L.toArray 138)).alloc (.cells #[.slice none 0 0, .bool false] 147)).alloc (.cells #[.slice none 0 0, .bool false] 147)).cell? ⟨gr, rl * 3 + 2, none⟩ = some (.slice a2 K.length c2) := grown_cell hgw (hrcell _ _ x2)
  have HEF : Hid (∀ (j : Nat) (hj : j < K.length) (W : World), bt s K[j] ≠ 46 → Calls Try.prog 79 #[.agg D.toArray, .agg (acL s K[j]).toArray] W fun r w' => (∃ v, r = .returned v ∧ effV s i.env K[j] v) ∧ W.grownBy w' none) := hid (fun j hj W h46 => by
    rw [hDD]
    exact peffect_any s i.env K[j] W (hK _ (List.getElem_mem hj)) h46 he)
  have HK46 : Hid (∀ (j : Nat) (hj : j < K.length), (bt s K[j] = 46 → (acV s K[j]).k = 3) ∧ (bt s K[j] ≠ 46 → (acV s K[j]).k = 1 ∨ (acV s K[j]).k = 2)) := hid (fun j hj => by
    have hok := hK _ (List.getElem_mem hj)
    unfold acOk at hok
    unfold acV
    refine ⟨fun h => by rw [if_neg (by omega), if_neg (by omega)], fun h => ?_⟩
    by_cases h43 : bt s K[j] = 43
    · rw [if_pos h43]; exact .inl rfl
    · rw [if_neg h43] at hok ⊢
      by_cases h45 : bt s K[j] = 45
      · rw [if_pos h45]; exact .inr rfl
      · rw [if_neg h45] at hok
        simp at hok
        exact absurd hok h)
  have HOT := hid (outA_take s i.env K)
  have HON := hid (outA_none s i.env K)
  have HOL := hid (outA_len s i.env K)
  have HAR := hid o2
  have HB0 := hid hb0
  have HB1 := hid hb1
  have HB2 := hid hb2
  have HGW := hid hgw
  have hgz : gr ≠ w.heap.size := by omega
  have hri : (rl : Int) < (R.length : Int) := by omega
  have hr0 : (0 : Int) ≤ (rl : Int) := by omega
  obtain ⟨env, henv⟩ : ∃ env, env = i.env := ⟨_, rfl⟩
  rw [← henv] at HEF HOT HON HOL ⊢
  clear hb0 hb1 hb2 hgw o1 o2 x0 x1 x2 hrcell hrow1 hpar hK hL hD hDD he henv hrl hKK
  go_enter Try.func62, Try.ntmps62
  go_wp2_with fail
  generalize (((w.alloc (.cells L.toArray 138)).alloc (.cells #[.slice none 0 0, .bool false] 147)).alloc (.cells #[.slice none 0 0, .bool false] 147)) = WA at k0 d2 HB0 HB1 HB2 HGW ⊢
  go_loopw [29] (fun t wr => ∃ j : Nat, j ≤ K.length ∧ t = .int .i64 j ∧ ∃ ws h v, outA s env (K.take j) = some (ws, h) ∧ wr.heap[w.heap.size]? = some (.cells L.toArray 138 (0, 0)) ∧ wr.heap[w.heap.size + 1]? = some (.cells #[.slice none 0 0, .bool false] 147 (0, 0)) ∧ wr.heap[w.heap.size + 1 + 1]? = some (.cells #[v, .bool h] 147 (0, 0)) ∧ wr.ownsRow w.heap.size 177 3 v ws.length (efC ws) ∧ w.grownBy wr none) (fun t _ => K.length - (intOf t).toNat)
  case atStart => exact ⟨0, by omega, rfl, [], false, _, rfl, HB0.out, HB1.out, HB2.out, World.ownsRow_nil _ _ _ _, HGW.out⟩
  case round =>
    obtain ⟨j, hj, rfl, ws, h, v, ho, hB0, hB1, hB2, hown, hg⟩ := hrel
    have HG := hid hg
    have HOW := hid hown
    have HO := hid ho
    have HBB0 := hid hB0
    have HBB1 := hid hB1
    have HBB2 := hid hB2
    have l0 := lt_of_block hB0
    have l1 := lt_of_block hB1
    have l2 := lt_of_block hB2
    obtain ⟨va, vm, vc, rfl⟩ := own_slice hown
    have em := own_len hown
    subst em
    have q0 : wr.cell? ⟨w.heap.size + 1 + 1, 0, none⟩ = some (.slice va ws.length vc) := by rw [cell_of_row _ _ _ _ _ _ hB2]; rfl
    have q1 : wr.cell? ⟨w.heap.size + 1 + 1, 1, none⟩ = some (.bool h) := by rw [cell_of_row _ _ _ _ _ _ hB2]; rfl
    have z2 : ∀ i, wr.frozen? ⟨w.heap.size + 1 + 1, i, none⟩ = false := frozen_blk hB2
    have HLT := hid (fun g hg => (HOW.out.lt g hg).1)
    by_cases hlt : j < K.length
    · have how := own_kept HAR.out hg (fun g hg => by cases hg)
      obtain ⟨ga, rfl, _, _, hgl, hcell⟩ := own_cell how (by omega)
      obtain ⟨A, hA⟩ : ∃ A, A = acL s K[j] := ⟨_, rfl⟩
      have HRG : Hid (wr.rangeAt ga (j * 8) A) := hid (by rw [hA]; exact row_range (f := acL s) (fun _ => rfl) hcell hlt)
      have hAl : A.length = 8 := by rw [hA]; rfl
      have HIA : Hid ((Try.prog.info? 175).map (·.size) = some A.length) := hid (by rw [hAl]; kernel_rfl)
      have HONA : Hid (A.toArray.all (·.oneCell') = true) := hid (all_oneCell_toArray (by rw [hA]; exact acL_one _ _))
      have HBN : Hid ((wr.alloc (.cells A.toArray 175)).heap[wr.heap.size]? = some (.cells A.toArray 175 (0, 0))) := hid (heap_alloc_new wr _)
      have HRA : Hid ((wr.alloc (.cells A.toArray 175)).rangeAt wr.heap.size 0 A) := hid (range_of_blk HBN.out rfl)
      have HRD : Hid ((wr.alloc (.cells A.toArray 175)).rangeAt w.heap.size 16 D) := hid (HDR.out _ ((Below.heap_alloc _ _ _ l0).trans hB0))
      obtain ⟨kd, hkd⟩ : ∃ kd, kd = (acV s K[j]).k := ⟨_, rfl⟩
      have kc : (wr.alloc (.cells A.toArray 175)).cell? ⟨wr.heap.size, 0, none⟩ = some (.int .i64 kd) := cell_list HBN.out (by rw [hA, hkd]; rfl)
      have HT := hid (HOT.out j hlt)
      have HKD := hid (HK46.out j hlt)
      rw [HO.out] at HT
      rw [← hkd] at HKD
      have HEJ := hid (HEF.out j hlt)
      rw [← hA] at HEJ
      have hne : ga ≠ wr.heap.size := by omega
      have n2 : w.heap.size + 1 + 1 ≠ wr.heap.size := by omega
      have n2' := n2.symm
      have HGA : Hid (wr.grownBy (wr.alloc (.cells A.toArray 175)) none) := hid (grown_alloc (grown_refl _ _) _)
      have hwl := HOL.out j hj (ws, h) HO.out
      simp only at hwl
      clear hA hkd how hcell hown hg ho
      by_cases h46 : bt s K[j] = 46
      · have hk3 : kd = 3 := HKD.out.1 h46
        subst hk3
        have HN : Hid (outA s env (K.take (j + 1)) = some (ws, true)) := hid (by
          rw [HT.out]
          simp [h46])
        have HNO : Hid (((wr.setCell ⟨w.heap.size + 1 + 1, 1, none⟩ (.bool true)).alloc (.cells A.toArray 175)).ownsRow w.heap.size 177 3 (.slice va ws.length vc) ws.length (efC ws)) := hid (own_kept (own_setc HOW.out hB2 (by decide) 1 (.bool true)) (grown_alloc (grown_refl _ none) _) (fun g hg => by cases hg))
        have HNG : Hid (w.grownBy ((wr.setCell ⟨w.heap.size + 1 + 1, 1, none⟩ (.bool true)).alloc (.cells A.toArray 175)) none) := hid (grown_alloc (grown_set HG.out (.inr (by show w.heap.size ≤ w.heap.size + 1 + 1; omega)) _) _)
        have sz : (wr.setCell ⟨w.heap.size + 1 + 1, 1, none⟩ (.bool true)).heap.size = wr.heap.size := by simp [World.setCell]
        have HN0 : Hid (((wr.setCell ⟨w.heap.size + 1 + 1, 1, none⟩ (.bool true)).alloc (.cells A.toArray 175)).heap[w.heap.size]? = some (.cells L.toArray 138 (0, 0))) := hid ((Below.heap_alloc _ _ _ (by rw [sz]; exact l0)).trans ((hs_ne (by omega)).trans hB0))
        have HN1 : Hid (((wr.setCell ⟨w.heap.size + 1 + 1, 1, none⟩ (.bool true)).alloc (.cells A.toArray 175)).heap[w.heap.size + 1]? = some (.cells #[.slice none 0 0, .bool false] 147 (0, 0))) := hid ((Below.heap_alloc _ _ _ (by rw [sz]; exact l1)).trans ((hs_ne (by omega)).trans hB1))
        have HN2 : Hid (((wr.setCell ⟨w.heap.size + 1 + 1, 1, none⟩ (.bool true)).alloc (.cells A.toArray 175)).heap[w.heap.size + 1 + 1]? = some (.cells #[.slice va ws.length vc, .bool true] 147 (0, 0))) := hid ((Below.heap_alloc _ _ _ (by rw [sz]; exact l2)).trans (blk_setCell hB2 1 _))
        clear hB0 hB1 hB2
        go_wp2_with (first
          | (refine wpList_load_mid rfl 175 (.tmp 31) rfl ga (j * 8) rfl A _ HRG.out Try.underlying175 rfl HIA.out ?_)
          | (refine wpList_store_new rfl 175 (.tmp 8) (.tmp 32) rfl _ A rfl rfl hAl.symm HIA.out HONA.out ?_))
        go_roundw
        case rel => exact ⟨j + 1, by omega, by go_num, ws, true, _, HN.out, HN0.out, HN1.out, HN2.out, HNO.out, HNG.out⟩
        case measure => simp [intOf]; omega
      · have hk3 : (kd == 3) = false := by
          rcases HKD.out.2 h46 with e | e <;> rw [e] <;> rfl
        have HE1 := hid (fun W => HEJ.out W h46)
        clear HKD HEJ
        go_wp2_with (first
          | (refine wpList_load_mid rfl 175 (.tmp 31) rfl ga (j * 8) rfl A _ HRG.out Try.underlying175 rfl HIA.out ?_)
          | (refine wpList_store_new rfl 175 (.tmp 8) (.tmp 32) rfl _ A rfl rfl hAl.symm HIA.out HONA.out ?_)
          | (refine wpList_load_mid rfl 136 (.tmp 38) rfl w.heap.size 16 rfl D _ HRD.out Try.underlying136 rfl HID.out ?_)
          | (refine wpList_load_mid rfl 175 (.tmp 8) rfl wr.heap.size 0 rfl A _ HRA.out Try.underlying175 rfl HIA.out ?_))
        go_at_call 79
        refine (HE1.out _).mono ?_
        rintro e w1 ⟨⟨ev, rfl, hev⟩, hg1⟩
        have HG1 : Hid (wr.grownBy w1 none) := hid (grown_trans HGA.out hg1)
        have b0 := (HG1.out.block _ l0 (by simp)).trans HBB0.out
        have b1 := (HG1.out.block _ l1 (by simp)).trans HBB1.out
        have b2 := (HG1.out.block _ l2 (by simp)).trans HBB2.out
        have s0 := lt_of_block b0
        have s1 := lt_of_block b1
        have s2 := lt_of_block b2
        have hsz1 := HG1.out.size
        clear hg1 HE1 HRG HRA HRD HBN kc q0 q1 z2 hB0 hB1 hB2
        unfold effV at hev
        cases hx : effA s env K[j] with
        | none =>
          rw [hx] at hev
          obtain ⟨xc, xb, xd, rfl⟩ := hev
          have HAN : Hid (outA s env K = none) := hid (HON.out (j + 1) (by rw [HT.out]; simp [h46, hx]))
          have y0 : w1.cell? ⟨w.heap.size + 1, 0, none⟩ = some (.slice none 0 0) := by rw [cell_of_row _ _ _ _ _ _ b1]; rfl
          have y1 : w1.cell? ⟨w.heap.size + 1, 1, none⟩ = some (.bool false) := by rw [cell_of_row _ _ _ _ _ _ b1]; rfl
          have zy : ∀ i, w1.frozen? ⟨w.heap.size + 1, i, none⟩ = false := frozen_blk b1
          have n1 : w.heap.size + 1 ≠ w1.heap.size := by omega
          have n1' := n1.symm
          have HBF : Hid ((((w1.setCell ⟨w.heap.size + 1, 0, none⟩ (.slice none 0 0)).setCell ⟨w.heap.size + 1, 1, none⟩ (.bool false)).alloc (.cells #[.int .i64 xc, .bool xb, .int .i64 xd] 177)).heap[w.heap.size + 1]? = some (.cells #[.slice none 0 0, .bool false] 147 (0, 0))) := hid ((Below.heap_alloc _ _ _ (by simpa [World.setCell] using s1)).trans (blk_setCell (blk_setCell b1 0 _) 1 _))
          have HGF : Hid (w.grownBy (((w1.setCell ⟨w.heap.size + 1, 0, none⟩ (.slice none 0 0)).setCell ⟨w.heap.size + 1, 1, none⟩ (.bool false)).alloc (.cells #[.int .i64 xc, .bool xb, .int .i64 xd] 177)) none) := hid (grown_alloc (grown_set (grown_set (grown_trans HG.out HG1.out) (.inr (by show w.heap.size ≤ w.heap.size + 1; omega)) _) (.inr (by show w.heap.size ≤ w.heap.size + 1; omega)) _) _)
          clear b0 b1 b2 hx
          go_wp2_with fail
          refine bodyPost_ret (res_ct Try.results62 rfl HBF.out Try.underlying147 rfl (by kernel_rfl) rfl) rfl ⟨?_, HGF.out⟩
          rw [HAN.out]
          exact rfl
        | some x =>
          rw [hx] at hev
          simp only at hev
          subst hev
          have HN : Hid (outA s env (K.take (j + 1)) = some (ws ++ [x], h)) := hid (by
            rw [HT.out]
            simp [h46, hx])
          obtain ⟨E, hE⟩ : ∃ E, E = efL x := ⟨_, rfl⟩
          rw [← hE]
          have hEl : E.length = 3 := by rw [hE]; rfl
          have HIE : Hid ((Try.prog.info? 177).map (·.size) = some E.length) := hid (by rw [hEl]; kernel_rfl)
          have HIZ : Hid ((Try.prog.info? 177).map (fun i => (i.zero, i.size)) = some (some (.agg #[.int .i64 0, .bool false, .int .i64 0]), E.length)) := hid (by rw [hEl]; kernel_rfl)
          have HOE : Hid (∀ u ∈ E, u.oneCell' = true) := hid (by rw [hE]; exact efL_one x)
          have HOEA : Hid (E.toArray.all (·.oneCell') = true) := hid (all_oneCell_toArray HOE.out)
          have HFI : Hid (∀ (w3 : World) (v' : Value), w3.ownsRow w.heap.size 177 3 v' (ws.length + 1) (efC ws ++ E) → w3.ownsRow w.heap.size 177 3 v' (ws ++ [x]).length (efC (ws ++ [x]))) := hid (fun w3 v' hh => by
            rw [hE] at hh
            rw [List.length_append]
            simpa [efC] using hh)
          have HRE : Hid ((w1.alloc (.cells E.toArray 177)).rangeAt w1.heap.size 0 E) := hid (range_of_blk (heap_alloc_new w1 _) rfl)
          have y0 : (w1.alloc (.cells E.toArray 177)).cell? ⟨w.heap.size + 1 + 1, 0, none⟩ = some (.slice va ws.length vc) := by rw [cell_of_row _ _ _ _ _ _ ((Below.heap_alloc _ _ _ s2).trans b2)]; rfl
          have how1 := own_kept (own_kept HOW.out HG1.out (fun g hg => by cases hg)) (grown_alloc (grown_alloc (grown_refl w1 none) (.cells E.toArray 177)) (.cells E.toArray 177)) (fun g hg => by cases hg)
          obtain ⟨nl, hnl⟩ : ∃ nl, nl = ws.length := ⟨_, rfl⟩
          obtain ⟨xs, hxs⟩ : ∃ xs, xs = efC ws := ⟨_, rfl⟩
          have HOW2 := hid HOW.out
          rw [← hnl] at HFI HLT how1 y0 hwl
          rw [← hxs] at HFI how1
          have HBK : Hid (∀ (g : Nat) (t : TypeId) (cs : Array Value), w1.heap[g]? = some (.cells cs t (0, 0)) → t ≠ 177 → ∀ w3 : World, ((w1.alloc (.cells E.toArray 177)).alloc (.cells E.toArray 177)).grownBy w3 (Value.slice va nl vc).ownBlock → w3.heap[g]? = some (.cells cs t (0, 0))) := hid (fun g t cs hgb ht w3 hg3 => by
            have hl := lt_of_block hgb
            have h4 := (Below.heap_alloc (w1.alloc (.cells E.toArray 177)) (.cells E.toArray 177) g (by simp; omega)).trans ((Below.heap_alloc w1 (.cells E.toArray 177) g hl).trans hgb)
            exact (hg3.block _ (lt_of_block h4) (fun e => own_ne_ty how1 h4 (fun e2 => ht e2.symm) e.symm)).trans h4)
          have K0 := hid b0
          have K1 := hid b1
          have K2 := hid b2
          rw [← hnl] at K2
          clear hE hnl hxs b0 b1 b2 hx
          go_wp2_with (first
            | (refine wpList_store_new rfl 177 (.tmp 9) (.tmp 42) rfl _ E rfl rfl hEl.symm HIE.out HOEA.out ?_)
            | (refine wpList_load_mid rfl 177 (.tmp 9) rfl w1.heap.size 0 rfl E _ HRE.out Try.underlying177 rfl HIE.out ?_)
            | (refine wpList_build_one rfl 145 177 (.tmp 49) rfl _ E rfl Try.underlying145 HIZ.out (by omega) (by omega) ?_)
            | (at_builtin; refine wpList_append_own _ rfl (.tmp 48) (.tmp 50) 145 rfl (w.heap.size) 177 i0 (.agg #[.int .i64 0, .bool false, .int .i64 0]) 3 24 Try.underlying145 hi0 hz0 hz1 hz2 rfl (by decide) _ _ _ rfl how1 _ 1 1 E rfl (by omega) (fun j u hj => news_at1 hj) HOE.out (by unfold maxLen; omega) (by omega) (by simp; omega) ?_))
          intro v3 w3 hown3 hg3 _
          have G0 := HBK.out _ _ _ K0.out (by decide) w3 hg3
          have G1 := HBK.out _ _ _ K1.out (by decide) w3 hg3
          have G2 := HBK.out _ _ _ K2.out (by decide) w3 hg3
          have HO3 := hid (own_setc (HFI.out _ _ hown3) G2 (by decide) 0 v3)
          have HGG : Hid (w.grownBy (w3.setCell ⟨w.heap.size + 1 + 1, 0, none⟩ v3) none) := hid (grown_set (grown_own2 (grown_trans HG.out (grown_trans HG1.out (grown_alloc (grown_alloc (grown_refl w1 none) _) _))) hg3 HLT.out) (.inr (by show w.heap.size ≤ w.heap.size + 1 + 1; omega)) _)
          have u0 : w3.cell? ⟨w.heap.size + 1 + 1, 0, none⟩ = some (.slice va nl vc) := by rw [cell_of_row _ _ _ _ _ _ G2]; rfl
          have zu : ∀ i, w3.frozen? ⟨w.heap.size + 1 + 1, i, none⟩ = false := frozen_blk G2
          have HF0 : Hid ((w3.setCell ⟨w.heap.size + 1 + 1, 0, none⟩ v3).heap[w.heap.size]? = some (.cells L.toArray 138 (0, 0))) := hid ((hs_ne (by omega)).trans G0)
          have HF1 : Hid ((w3.setCell ⟨w.heap.size + 1 + 1, 0, none⟩ v3).heap[w.heap.size + 1]? = some (.cells #[.slice none 0 0, .bool false] 147 (0, 0))) := hid ((hs_ne (by omega)).trans G1)
          have HF2 : Hid ((w3.setCell ⟨w.heap.size + 1 + 1, 0, none⟩ v3).heap[w.heap.size + 1 + 1]? = some (.cells #[v3, .bool h] 147 (0, 0))) := hid (blk_setCell G2 0 _)
          obtain ⟨va3, vm3, vc3, rfl⟩ := own_slice hown3
          clear hown3 hg3 G0 G1 G2 how1 HBK
          go_wp2_with fail
          go_roundw
          case rel => exact ⟨j + 1, by omega, by go_num, ws ++ [x], h, _, HN.out, HF0.out, HF1.out, HF2.out, HO3.out, HGG.out⟩
          case measure => simp [intOf]; omega
    · have hjl : j = K.length := by omega
      subst hjl
      rw [List.take_length] at HO
      have y0 : wr.cell? ⟨w.heap.size + 1, 0, none⟩ = some (.slice none 0 0) := by rw [cell_of_row _ _ _ _ _ _ hB1]; rfl
      have y1 : wr.cell? ⟨w.heap.size + 1, 1, none⟩ = some (.bool false) := by rw [cell_of_row _ _ _ _ _ _ hB1]; rfl
      have zy : ∀ i, wr.frozen? ⟨w.heap.size + 1, i, none⟩ = false := frozen_blk hB1
      have HBF : Hid (((wr.setCell ⟨w.heap.size + 1, 0, none⟩ (.slice va ws.length vc)).setCell ⟨w.heap.size + 1, 1, none⟩ (.bool h)).heap[w.heap.size + 1]? = some (.cells #[.slice va ws.length vc, .bool h] 147 (0, 0))) := hid (blk_setCell (blk_setCell hB1 0 _) 1 _)
      have HGF : Hid (w.grownBy ((wr.setCell ⟨w.heap.size + 1, 0, none⟩ (.slice va ws.length vc)).setCell ⟨w.heap.size + 1, 1, none⟩ (.bool h)) none) := hid (grown_set (grown_set HG.out (.inr (by show w.heap.size ≤ w.heap.size + 1; omega)) _) (.inr (by show w.heap.size ≤ w.heap.size + 1; omega)) _)
      have HOF : Hid (((wr.setCell ⟨w.heap.size + 1, 0, none⟩ (.slice va ws.length vc)).setCell ⟨w.heap.size + 1, 1, none⟩ (.bool h)).ownsRow w.heap.size 177 3 (.slice va ws.length vc) ws.length (efC ws)) := hid (own_setc (own_setc HOW.out hB1 (by decide) 0 _) (blk_setCell hB1 0 _) (by decide) 1 _)
      clear hB0 hB1 hB2 hown hg ho
      go_wp2_with fail
      refine bodyPost_ret (res_ct Try.results62 rfl HBF.out Try.underlying147 rfl (by kernel_rfl) rfl) rfl ⟨?_, HGF.out⟩
      rw [HO.out]
      exact ⟨_, rfl, HOF.out⟩

end Go.Proofs.Ythlhbjnkohinmaa

/- The program's instantiations: the first that is open. -/
namespace Go.Proofs.Ythlhbjnkohinmaa
open Go.RowKit

theorem insF_head {α : Type} (lt : α → α → Bool) (x : α) (l : List α) : (insF lt x l).head? = match l.head? with | none => some x | some y => if lt x y then some x else some y := by
  cases l with
  | nil => rfl
  | cons y l =>
    simp only [insF, List.head?_cons]
    split <;> rfl
/-- The first in the order, and how it is kept. -/
def nxI (wt : Nat → Int) (b : Option In) (x : In) : Option In := match b with | none => some x | some y => if ltI wt x y then some x else some y
def fstI (wt : Nat → Int) (l : List In) : Option In := (isort (ltI wt) l).head?
theorem fstI_snoc (wt : Nat → Int) (l : List In) (x : In) : fstI wt (l ++ [x]) = nxI wt (fstI wt l) x := by
  unfold fstI nxI
  rw [isort_snoc, insF_head]
  cases (isort (ltI wt) l).head? <;> rfl
def fstL (wt : Nat → Int) (o : Option In) : List Value := match o with
  | some i => inCells (wt i.rule) i
  | none => [.int .i64 0, .int .i64 0, .int .i64 0, .int .i64 0, .int .i64 0, .int .i64 0, .int .i64 0, .int .i64 0, .int .i64 0, .int .i64 0, .int .i64 0, .int .i64 0, .int .i64 0, .int .i64 0, .int .i64 0, .int .i64 0, .bool false, .bool false, .bool false, .bool false, .int .i64 0, .int .i64 0, .int .i64 0, .int .i64 0]
theorem fstL_len (wt : Nat → Int) (o : Option In) : (fstL wt o).length = 24 := by cases o <;> rfl
theorem fstL_one (wt : Nat → Int) (o : Option In) : ∀ v ∈ fstL wt o, v.oneCell' = true := by
  cases o with
  | some i => exact inCells_one _ _
  | none =>
    intro v hv
    simp only [fstL, List.mem_cons, List.not_mem_nil, or_false] at hv
    rcases hv with h | h | h | h | h | h | h | h | h | h | h | h | h | h | h | h | h | h | h | h | h | h | h | h <;> rw [h] <;> rfl
theorem grown_sets_row {b : Nat} : ∀ (vs : List Value) (o : Nat) (w w' : World), w.grownBy w' (some b) → w.grownBy (w'.setCells b o vs) (some b)
  | [], _, _, _, h => h
  | v :: vs, o, w, _, h => grown_sets_row vs (o + 1) w _ (grown_set h (.inl rfl) v)
theorem grown_row {w w' : World} {b : Nat} (h : w.grownBy w' (some b)) (hb : w.heap.size ≤ b) : w.grownBy w' none := grown_own2 (grown_refl w none) h (fun g hg => by cases hg; exact hb)
theorem blk_whole {w : World} {b : Nat} {Z L : List Value} {t : TypeId} (h : w.heap[b]? = some (.cells Z.toArray t (0, 0))) (hl : Z.length = L.length) : (w.setCells b 0 L).heap[b]? = some (.cells L.toArray t (0, 0)) := by
  have := blk_setCells L 0 w [] [] Z rfl hl (by simpa using h)
  simpa using this

theorem wpList_load_want {P : Program} {ops : Array Oper} {rest : List Oper} {op : Oper} {a : Act} {w : World} {Q : Exit → Act → World → Prop} (hw : Region.wanted op (yielded ops a.tmps) = true) (ty : TypeId) (x : Operand) (ho : op.op = .load ty x)
    (b o : Nat) (hx : a.eval x = .pointer (some ⟨b, o, none⟩)) (cs : List Value) (d : TypeDesc) (hc : w.rangeAt b o cs)
    (hu : P.underlying ty = some d) (hd : d.isRow = true) (hi : (P.info? ty).map (·.size) = some cs.length)
    (h : wpList P ops Q rest (a.put op.dst (.agg cs.toArray)) w) : wpList P ops Q (op :: rest) a w :=
  wpList_step fun _ hK => by
    rw [if_pos hw]
    exact wp_load_mid ty x ho b o hx cs d hc hu hd hi (hK _ _ h)

set_option maxRecDepth 20000 in
set_option maxHeartbeats 2000000 in
theorem pfirst_any (s : ByteArray) (F : List PFact) (R : List RuleP) (ra fa : Option Addr) (rc fc B B2 x o : Nat) (fd : In → Bool) (w : World) (hR : ∀ r ∈ R, RulW s r) (hR9 : R.length ≤ 9)
    (hrow : RulesOwn w B s (.slice ra R.length rc) R) (hFl : F.length ≤ 60) (hfr : w.ownsRow B2 97 4 (.slice fa F.length fc) F.length (fcCells F))
    (HHAS : Hid (∀ (k : Nat) (hk : k < R.length) (i : In) (W : World), i ∈ instR 0 s F k R[k].2.1 → w.grownBy W none → Calls Try.prog 58 #[.pointer (some ⟨x, o, none⟩), .agg (inCells (wgt s R k) i).toArray] W fun e w' => e = .returned (.bool (fd i)) ∧ W.grownBy w' none)) :
    Calls Try.prog 78 #[.slice ra R.length rc, .slice fa F.length fc, .pointer (some ⟨x, o, none⟩)] w fun e w' => e = .returned (.tuple #[.agg (fstL (wgt s R) (fstI (wgt s R) (opN s F R fd R.length))).toArray, .bool (fstI (wgt s R) (opN s F R fd R.length)).isSome]) ∧ w.grownBy w' none := by
  obtain ⟨xs0, hrow1, hpar⟩ := hrow
  have HROW := hid hrow1
  have HPAR := hid hpar
  have HFR := hid hfr
  have HR := hid hR
  have hb0 : ((w.alloc (.cells #[.int .i64 0, .int .i64 0, .int .i64 0, .int .i64 0, .int .i64 0, .int .i64 0, .int .i64 0, .int .i64 0, .int .i64 0, .int .i64 0, .int .i64 0, .int .i64 0, .int .i64 0, .int .i64 0, .int .i64 0, .int .i64 0, .bool false, .bool false, .bool false, .bool false, .int .i64 0, .int .i64 0, .int .i64 0, .int .i64 0] 138)).alloc (.cells #[.int .i64 0, .int .i64 0, .int .i64 0, .int .i64 0, .int .i64 0, .int .i64 0, .int .i64 0, .int .i64 0, .int .i64 0, .int .i64 0, .int .i64 0, .int .i64 0, .int .i64 0, .int .i64 0, .int .i64 0, .int .i64 0, .bool false, .bool false, .bool false, .bool false, .int .i64 0, .int .i64 0, .int .i64 0, .int .i64 0] 138)).heap[w.heap.size]? = some (.cells #[.int .i64 0, .int .i64 0, .int .i64 0, .int .i64 0, .int .i64 0, .int .i64 0, .int .i64 0, .int .i64 0, .int .i64 0, .int .i64 0, .int .i64 0, .int .i64 0, .int .i64 0, .int .i64 0, .int .i64 0, .int .i64 0, .bool false, .bool false, .bool false, .bool false, .int .i64 0, .int .i64 0, .int .i64 0, .int .i64 0] 138 (0, 0)) := (Below.heap_alloc _ _ _ (by simp)).trans (heap_alloc_new w _)
  have hb1 : ((w.alloc (.cells #[.int .i64 0, .int .i64 0, .int .i64 0, .int .i64 0, .int .i64 0, .int .i64 0, .int .i64 0, .int .i64 0, .int .i64 0, .int .i64 0, .int .i64 0, .int .i64 0, .int .i64 0, .int .i64 0, .int .i64 0, .int .i64 0, .bool false, .bool false, .bool false, .bool false, .int .i64 0, .int .i64 0, .int .i64 0, .int .i64 0] 138)).alloc (.cells #[.int .i64 0, .int .i64 0, .int .i64 0, .int .i64 0, .int .i64 0, .int .i64 0, .int .i64 0, .int .i64 0, .int .i64 0, .int .i64 0, .int .i64 0, .int .i64 0, .int .i64 0, .int .i64 0, .int .i64 0, .int .i64 0, .bool false, .bool false, .bool false, .bool false, .int .i64 0, .int .i64 0, .int .i64 0, .int .i64 0] 138)).heap[w.heap.size + 1]? = some (.cells (fstL (wgt s R) (fstI (wgt s R) (opN s F R fd 0))).toArray 138 (0, 0)) := pblk_at (by simp)
  have HB0 := hid hb0
  have HB1 := hid hb1
  have HGW : Hid (w.grownBy ((w.alloc (.cells #[.int .i64 0, .int .i64 0, .int .i64 0, .int .i64 0, .int .i64 0, .int .i64 0, .int .i64 0, .int .i64 0, .int .i64 0, .int .i64 0, .int .i64 0, .int .i64 0, .int .i64 0, .int .i64 0, .int .i64 0, .int .i64 0, .bool false, .bool false, .bool false, .bool false, .int .i64 0, .int .i64 0, .int .i64 0, .int .i64 0] 138)).alloc (.cells #[.int .i64 0, .int .i64 0, .int .i64 0, .int .i64 0, .int .i64 0, .int .i64 0, .int .i64 0, .int .i64 0, .int .i64 0, .int .i64 0, .int .i64 0, .int .i64 0, .int .i64 0, .int .i64 0, .int .i64 0, .int .i64 0, .bool false, .bool false, .bool false, .bool false, .int .i64 0, .int .i64 0, .int .i64 0, .int .i64 0] 138)) none) := hid (grown_alloc (grown_alloc (grown_refl _ _) _) _)
  have HIT : Hid (∀ o : Option In, (Try.prog.info? 138).map (·.size) = some (fstL (wgt s R) o).length) := hid (fun o => by rw [fstL_len]; exact info_inst)
  clear hrow1 hpar hfr hR hb0 hb1
  go_enter Try.func78, Try.ntmps78
  go_wp2_with fail
  generalize ((w.alloc (.cells #[.int .i64 0, .int .i64 0, .int .i64 0, .int .i64 0, .int .i64 0, .int .i64 0, .int .i64 0, .int .i64 0, .int .i64 0, .int .i64 0, .int .i64 0, .int .i64 0, .int .i64 0, .int .i64 0, .int .i64 0, .int .i64 0, .bool false, .bool false, .bool false, .bool false, .int .i64 0, .int .i64 0, .int .i64 0, .int .i64 0] 138)).alloc (.cells #[.int .i64 0, .int .i64 0, .int .i64 0, .int .i64 0, .int .i64 0, .int .i64 0, .int .i64 0, .int .i64 0, .int .i64 0, .int .i64 0, .int .i64 0, .int .i64 0, .int .i64 0, .int .i64 0, .int .i64 0, .int .i64 0, .bool false, .bool false, .bool false, .bool false, .int .i64 0, .int .i64 0, .int .i64 0, .int .i64 0] 138)) = WA at HB0 HB1 HGW ⊢
  go_loopw [9, 18] (fun t i wr => ∃ k : Nat, k ≤ R.length ∧ i = .int .i64 k ∧ t = .bool (fstI (wgt s R) (opN s F R fd k)).isSome ∧ wr.heap[w.heap.size]? = some (.cells #[.int .i64 0, .int .i64 0, .int .i64 0, .int .i64 0, .int .i64 0, .int .i64 0, .int .i64 0, .int .i64 0, .int .i64 0, .int .i64 0, .int .i64 0, .int .i64 0, .int .i64 0, .int .i64 0, .int .i64 0, .int .i64 0, .bool false, .bool false, .bool false, .bool false, .int .i64 0, .int .i64 0, .int .i64 0, .int .i64 0] 138 (0, 0)) ∧ wr.heap[w.heap.size + 1]? = some (.cells (fstL (wgt s R) (fstI (wgt s R) (opN s F R fd k))).toArray 138 (0, 0)) ∧ w.grownBy wr none) (fun _ i _ => R.length - (intOf i).toNat)
  case atStart => exact ⟨0, by omega, rfl, rfl, HB0.out, HB1.out, HGW.out⟩
  case round =>
    obtain ⟨k, hk, rfl, rfl, hB0, hB1, hg⟩ := hrel
    have HG := hid hg
    have l0 := lt_of_block hB0
    have l1 := lt_of_block hB1
    by_cases hlt : k < R.length
    · have hrw := HR.out _ (List.getElem_mem hlt)
      obtain ⟨a1, m1, c1, a2, m2, c2, x0, x1, x2, o1, o2⟩ := Parts_at R xs0 HPAR.out k hlt
      have em1 := own_len o1
      subst em1
      obtain ⟨gr, hra, _, _, hgr, hrcell⟩ := own_cell HROW.out (by omega)
      subst hra
      obtain ⟨wk, hwk⟩ : ∃ wk : Int, wk = bt s R[k].1 - 48 := ⟨_, rfl⟩
      have hwg : wgt s R k = wk := by rw [hwk]; simp [wgt, List.getD, List.getElem?_eq_getElem hlt]
      have d0 := grown_cell hg (hrcell _ _ x0)
      have d1 := grown_cell hg (hrcell _ _ x1)
      have d2 := grown_cell hg (hrcell _ _ x2)
      rw [← hwk] at d0
      obtain ⟨m1, hm1⟩ : ∃ m1, m1 = R[k].2.1.length := ⟨_, rfl⟩
      rw [← hm1] at d1
      obtain ⟨IR, hIR⟩ : ∃ IR, IR = instR 0 s F k R[k].2.1 := ⟨_, rfl⟩
      have HCO : Hid (∀ W, w.grownBy W none → Calls Try.prog 57 #[.int .i64 k, .agg #[.int .i64 wk, .slice a1 m1 c1, .slice a2 m2 c2], .slice fa F.length fc] W fun e w' => ∃ v, e = .returned v ∧ w'.ownsRow W.heap.size 138 24 v IR.length (insC wk IR) ∧ W.grownBy w' none) := hid (fun W hW => by
        rw [hIR, hm1]
        exact pcomplete_any s F k R[k].2.1 wk a1 a2 fa c1 m2 c2 fc B B2 W hrw.conds hrw.pats hrw.len (own_kept o1 hW (fun g hg => by cases hg)) hFl (own_kept HFR.out hW (fun g hg => by cases hg)))
      have HHK := hid (HHAS.out k hlt)
      rw [← hIR, hwg] at HHK
      have HIRL : IR.length ≤ 216000 := by rw [hIR]; exact instR_le hFl k hrw
      have HIRR : Hid (∀ i ∈ IR, i.rule = k) := hid (by rw [hIR]; exact fun i hi => (instR_mem hFl k hrw i hi).2)
      have HJS := hid (opJ_succ s F R fd k IR)
      have HJA : Hid (opJ s F R fd k IR IR.length = opN s F R fd (k + 1)) := hid (by rw [hIR]; exact opJ_all s F R fd k hlt)
      have HJ0 := hid (opJ_zero s F R fd k IR)
      have hsz := hg.size
      have hne : gr ≠ wr.heap.size := by omega
      have hgl : gr < wr.heap.size := by omega
      have HWGT := hid hwg
      have HBB0 := hid hB0
      have HBB1 := hid hB1
      rw [← HJ0.out] at HBB1 ⊢
      obtain ⟨f0, hf0⟩ : ∃ f0, f0 = (fstI (wgt s R) (opJ s F R fd k IR 0)).isSome := ⟨_, rfl⟩
      rw [← hf0]
      have HF0 := hid hf0
      have HK1 : Hid (k + 1 ≤ R.length) := hid hlt
      clear hf0 hIR hm1 hwk hwg x0 x1 x2 o1 o2 hrcell hrw hg hB0 hB1
      go_wp2_with fail
      go_at_call 57
      refine (HCO.out _ (grown_trans HG.out (grown_alloc (grown_refl _ _) _))).mono ?_
      rintro e w1 ⟨ov, rfl, hov, hg1⟩
      have HW1 : Hid (wr.grownBy w1 none) := hid (grown_trans (grown_alloc (grown_refl _ _) _) hg1)
      obtain ⟨oa, om, oc, rfl⟩ := own_slice hov
      have eom := own_len hov
      subst eom
      have HOV := hid (own_mono hov (Nat.zero_le _))
      have HOBS : Hid (∀ g, (Value.slice oa IR.length oc).ownBlock = some g → wr.heap.size < g) := hid (fun g hgg => by
        have := hov.lt g hgg
        simp at this
        omega)
      have HA0 : Hid (w1.heap[w.heap.size]? = some (.cells #[.int .i64 0, .int .i64 0, .int .i64 0, .int .i64 0, .int .i64 0, .int .i64 0, .int .i64 0, .int .i64 0, .int .i64 0, .int .i64 0, .int .i64 0, .int .i64 0, .int .i64 0, .int .i64 0, .int .i64 0, .int .i64 0, .bool false, .bool false, .bool false, .bool false, .int .i64 0, .int .i64 0, .int .i64 0, .int .i64 0] 138 (0, 0))) := hid ((HW1.out.block _ l0 (by simp)).trans HBB0.out)
      have HA1 : Hid (w1.heap[w.heap.size + 1]? = some (.cells (fstL (wgt s R) (fstI (wgt s R) (opJ s F R fd k IR 0))).toArray 138 (0, 0))) := hid ((HW1.out.block _ l1 (by simp)).trans HBB1.out)
      clear hov hg1 HCO
      go_wp2_with fail
      go_loopw [9, 29] (fun t i wr2 => ∃ j : Nat, j ≤ IR.length ∧ i = .int .i64 j ∧ t = .bool (fstI (wgt s R) (opJ s F R fd k IR j)).isSome ∧ wr2.heap[w.heap.size]? = some (.cells #[.int .i64 0, .int .i64 0, .int .i64 0, .int .i64 0, .int .i64 0, .int .i64 0, .int .i64 0, .int .i64 0, .int .i64 0, .int .i64 0, .int .i64 0, .int .i64 0, .int .i64 0, .int .i64 0, .int .i64 0, .int .i64 0, .bool false, .bool false, .bool false, .bool false, .int .i64 0, .int .i64 0, .int .i64 0, .int .i64 0] 138 (0, 0)) ∧ wr2.heap[w.heap.size + 1]? = some (.cells (fstL (wgt s R) (fstI (wgt s R) (opJ s F R fd k IR j))).toArray 138 (0, 0)) ∧ w.grownBy wr2 none ∧ wr2.ownsRow 0 138 24 (.slice oa IR.length oc) IR.length (insC wk IR)) (fun _ i _ => IR.length - (intOf i).toNat)
      case atStart => exact ⟨0, by omega, rfl, by rw [HF0.out], HA0.out, HA1.out, grown_trans HG.out HW1.out, HOV.out⟩
      case round =>
        rename World => wr2
        obtain ⟨j, hj, rfl, rfl, hC0, hC1, hg2, hor⟩ := hrel
        have HG2 := hid hg2
        have HOR := hid hor
        have HC0 := hid hC0
        have HC1 := hid hC1
        have r0 := lt_of_block hC0
        have r1 := lt_of_block hC1
        have hsz2 := hg2.size
        by_cases hltj : j < IR.length
        · obtain ⟨go, hoa, _, _, hgol, hocell⟩ := own_cell hor (by omega)
          subst hoa
          have hgob : w.heap.size + 1 < go := by
            have := HOBS.out go rfl
            omega
          obtain ⟨L, hL⟩ : ∃ L, L = inCells wk IR[j] := ⟨_, rfl⟩
          have HRG : Hid (wr2.rangeAt go (j * 24) L) := hid (by rw [hL]; exact row_range (inCells_len wk) hocell hltj)
          have hLl : L.length = 24 := by rw [hL]; rfl
          have HIL : Hid ((Try.prog.info? 138).map (·.size) = some L.length) := hid (by rw [hLl]; exact info_inst)
          have HILs : Hid ((Try.prog.info? 138).map (·.size) = some L.toArray.size) := hid (by rw [List.size_toArray, hLl]; exact info_inst)
          have HONA : Hid (L.toArray.all (·.oneCell') = true) := hid (all_oneCell_toArray (by rw [hL]; exact inCells_one _ _))
          have HBN : Hid ((wr2.alloc (.cells L.toArray 138)).heap[wr2.heap.size]? = some (.cells L.toArray 138 (0, 0))) := hid (heap_alloc_new wr2 _)
          have HGA : Hid (wr2.grownBy (wr2.alloc (.cells L.toArray 138)) none) := hid (grown_alloc (grown_refl _ _) _)
          have HCA := hid (fun W => HHK.out IR[j] W (List.getElem_mem hltj))
          rw [← hL] at HCA
          have HSJ := hid (HJS.out j hltj)
          obtain ⟨ok, hok⟩ : ∃ ok, ok = fd IR[j] := ⟨_, rfl⟩
          rw [← hok] at HCA HSJ
          have HFL : Hid (fstL (wgt s R) (some IR[j]) = L) := hid (by rw [hL]; unfold fstL; simp only []; rw [HIRR.out _ (List.getElem_mem hltj), HWGT.out])
          -- which comes first then
          obtain ⟨best, hbest⟩ : ∃ best, best = fstI (wgt s R) (opJ s F R fd k IR j) := ⟨_, rfl⟩
          have HNX : Hid (fstI (wgt s R) (opJ s F R fd k IR (j + 1)) = if ok then best else nxI (wgt s R) best IR[j]) := hid (by
            rw [HSJ.out, hbest]
            cases ok with
            | true => simp
            | false =>
              rw [if_neg (by simp), if_neg (by simp)]
              exact fstI_snoc _ _ _)
          obtain ⟨M, hM⟩ : ∃ M, M = fstL (wgt s R) best := ⟨_, rfl⟩
          have hMl : M.length = 24 := by rw [hM]; exact fstL_len _ _
          have HIM : Hid ((Try.prog.info? 138).map (·.size) = some M.length) := hid (by rw [hMl]; exact info_inst)
          rw [← hbest, ← hM] at HC1 hC1
          have HRM : Hid (∀ W, wr2.grownBy W none → W.rangeAt (w.heap.size + 1) 0 M) := hid (fun W hW => range_of_blk ((hW.block _ r1 (by simp)).trans hC1) rfl)
          have HRL : Hid (∀ W, (wr2.alloc (.cells L.toArray 138)).grownBy W none → W.rangeAt wr2.heap.size 0 L) := hid (fun W hW => range_of_blk ((hW.block _ (lt_of_block HBN.out) (by simp)).trans HBN.out) rfl)
          have HTH : Hid (∀ W, wr2.grownBy W none → W.there (w.heap.size + 1) 0 L.toArray.size) := hid (fun W hW => there_drop ((hW.block _ r1 (by simp)).trans hC1) (by simp [hLl, hMl]))
          have HNEW : Hid (∀ W, wr2.grownBy W none → (W.setCells (w.heap.size + 1) 0 L.toArray.toList).heap[w.heap.size]? = some (.cells #[.int .i64 0, .int .i64 0, .int .i64 0, .int .i64 0, .int .i64 0, .int .i64 0, .int .i64 0, .int .i64 0, .int .i64 0, .int .i64 0, .int .i64 0, .int .i64 0, .int .i64 0, .int .i64 0, .int .i64 0, .int .i64 0, .bool false, .bool false, .bool false, .bool false, .int .i64 0, .int .i64 0, .int .i64 0, .int .i64 0] 138 (0, 0)) ∧ (W.setCells (w.heap.size + 1) 0 L.toArray.toList).heap[w.heap.size + 1]? = some (.cells L.toArray 138 (0, 0)) ∧ w.grownBy (W.setCells (w.heap.size + 1) 0 L.toArray.toList) none ∧ (W.setCells (w.heap.size + 1) 0 L.toArray.toList).ownsRow 0 138 24 (.slice (some ⟨go, 0, none⟩) IR.length oc) IR.length (insC wk IR)) := hid (fun W hW => by
            refine ⟨(hsc_ne _ _ _ (by omega)).trans ((hW.block _ r0 (by simp)).trans HC0.out), blk_whole ((hW.block _ r1 (by simp)).trans hC1) (by rw [hMl, hLl]), ?_, ?_⟩
            · exact grown_own2 (grown_trans HG2.out hW) (grown_sets_row _ 0 W W (grown_refl _ _)) (fun g hg => by cases hg; omega)
            · refine own_kept_ne (own_kept HOR.out hW (fun g hg => by cases hg)) (grown_sets_row _ 0 W W (grown_refl _ _)) (fun g hg e => ?_)
              have e1 : go = g := Option.some.inj hg
              have e2 : w.heap.size + 1 = g := Option.some.inj e
              omega)
          have HOLD : Hid (∀ W, wr2.grownBy W none → W.heap[w.heap.size]? = some (.cells #[.int .i64 0, .int .i64 0, .int .i64 0, .int .i64 0, .int .i64 0, .int .i64 0, .int .i64 0, .int .i64 0, .int .i64 0, .int .i64 0, .int .i64 0, .int .i64 0, .int .i64 0, .int .i64 0, .int .i64 0, .int .i64 0, .bool false, .bool false, .bool false, .bool false, .int .i64 0, .int .i64 0, .int .i64 0, .int .i64 0] 138 (0, 0)) ∧ W.heap[w.heap.size + 1]? = some (.cells M.toArray 138 (0, 0)) ∧ w.grownBy W none ∧ W.ownsRow 0 138 24 (.slice (some ⟨go, 0, none⟩) IR.length oc) IR.length (insC wk IR)) := hid (fun W hW => ⟨(hW.block _ r0 (by simp)).trans HC0.out, (hW.block _ r1 (by simp)).trans hC1, grown_trans HG2.out hW, own_kept HOR.out hW (fun g hg => by cases hg)⟩)
          have HAH : Hid (∀ y, best = some y → ∀ W, Calls Try.prog 77 #[.agg L.toArray, .agg M.toArray] W fun e w' => e = .returned (.bool (ltI (wgt s R) IR[j] y)) ∧ W.grownBy w' none) := hid (fun y hy W => by
            have := pahead_any (wgt s R IR[j].rule) (wgt s R y.rule) IR[j] y W
            rw [hM, hy, ← HFL.out]
            exact this)
          have HM := hid hM
          have hneo : go ≠ wr2.heap.size := by omega
          have w1n : w.heap.size + 1 ≠ wr2.heap.size := by omega
          obtain ⟨it, hit⟩ : ∃ it, it = IR[j] := ⟨_, rfl⟩
          rw [← hit] at HNX HAH HFL
          rw [← hbest]
          clear hit hM hL hok hbest HSJ hC0 hC1 hg2 hor hocell HHK HJS
          cases hbb : best with
          | none =>
            subst hbb
            simp only [Option.isSome_none]
            have HG3 : Hid (wr2.grownBy (wr2.alloc (.cells L.toArray 138)) none) := hid HGA.out
            go_wp2_with (first
              | (refine wpList_load_mid rfl 138 (.tmp 31) rfl go (j * 24) rfl L _ HRG.out Try.underlying138 rfl HIL.out ?_)
              | (refine wpList_store_new rfl 138 (.tmp 14) (.tmp 32) rfl _ L rfl rfl hLl.symm HIL.out HONA.out ?_)
              | (refine wpList_load_want rfl 138 (.tmp 14) rfl wr2.heap.size 0 rfl L _ (HRL.out _ (grown_refl _ _)) Try.underlying138 rfl HIL.out ?_))
            go_at_call 58
            refine (HCA.out _ (grown_trans HG2.out HGA.out)).mono ?_
            rintro e w2 ⟨rfl, hg3⟩
            have HG4 : Hid (wr2.grownBy w2 none) := hid (grown_trans HGA.out hg3)
            have HR4 : Hid (w2.rangeAt wr2.heap.size 0 L) := hid (HRL.out _ hg3)
            clear hg3
            cases ok with
            | true =>
              have HX := hid (HOLD.out _ HG4.out)
              have HNZ : Hid (fstI (wgt s R) (opJ s F R fd k IR (j + 1)) = none) := hid (by rw [HNX.out]; rfl)
              clear HNX HCA HNEW HTH
              go_wp2_with fail
              go_roundw
              case rel =>
                obtain ⟨e1, e2, e3, e4⟩ := HX.out
                exact ⟨j + 1, by omega, by go_num, by rw [HNZ.out]; rfl, e1, by rw [HNZ.out, ← HM.out]; exact e2, e3, e4⟩
              case measure => simp [intOf]; omega
            | false =>
              have HX := hid (HNEW.out _ HG4.out)
              have HNZ : Hid (fstI (wgt s R) (opJ s F R fd k IR (j + 1)) = some it) := hid (by rw [HNX.out]; rfl)
              have HT4 := hid (HTH.out _ HG4.out)
              clear HNX HCA HOLD HTH HNEW
              go_wp2_with (first
                | (refine wpList_load_mid rfl 138 (.tmp 14) rfl wr2.heap.size 0 rfl L _ HR4.out Try.underlying138 rfl HIL.out ?_)
                | (refine wpList_store_mid rfl 138 (.tmp 8) (.tmp 47) rfl (w.heap.size + 1) 0 L.toArray rfl rfl HT4.out HILs.out HONA.out ?_))
              go_roundw
              case rel =>
                obtain ⟨e1, e2, e3, e4⟩ := HX.out
                exact ⟨j + 1, by omega, by go_num, by rw [HNZ.out]; rfl, e1, by rw [HNZ.out, HFL.out]; exact e2, e3, e4⟩
              case measure => simp [intOf]; omega
          | some y =>
            subst hbb
            simp only [Option.isSome_some]
            have HAY := hid (HAH.out y rfl)
            obtain ⟨la, hla⟩ : ∃ la, la = ltI (wgt s R) it y := ⟨_, rfl⟩
            have HNY : Hid (nxI (wgt s R) (some y) it = if la then some it else some y) := hid (by rw [hla]; rfl)
            rw [← hla] at HAY
            clear hla HAH
            go_wp2_with (first
              | (refine wpList_load_mid rfl 138 (.tmp 31) rfl go (j * 24) rfl L _ HRG.out Try.underlying138 rfl HIL.out ?_)
              | (refine wpList_store_new rfl 138 (.tmp 14) (.tmp 32) rfl _ L rfl rfl hLl.symm HIL.out HONA.out ?_)
              | (refine wpList_load_want rfl 138 (.tmp 14) rfl wr2.heap.size 0 rfl L _ (HRL.out _ (grown_refl _ _)) Try.underlying138 rfl HIL.out ?_)
              | (refine wpList_load_want rfl 138 (.tmp 8) rfl (w.heap.size + 1) 0 rfl M _ (HRM.out _ HGA.out) Try.underlying138 rfl HIM.out ?_))
            go_at_call 77
            refine (HAY.out _).mono ?_
            rintro e wa ⟨rfl, hga⟩
            have HGa := hid (grown_trans HGA.out hga)
            have HRa := hid (HRL.out _ hga)
            have HGaL := hid hga
            clear hga HAY
            cases la with
            | false =>
              have HNZ : Hid (fstI (wgt s R) (opJ s F R fd k IR (j + 1)) = some y) := hid (by
                rw [HNX.out, HNY.out]
                cases ok <;> simp)
              have HX := hid (HOLD.out _ HGa.out)
              clear HNX HNY HCA HNEW HTH
              go_wp2_with fail
              go_roundw
              case rel =>
                obtain ⟨e1, e2, e3, e4⟩ := HX.out
                exact ⟨j + 1, by omega, by go_num, by rw [HNZ.out]; rfl, e1, by rw [HNZ.out, ← HM.out]; exact e2, e3, e4⟩
              case measure => simp [intOf]; omega
            | true =>
              go_wp2_with (first
                | (refine wpList_load_want rfl 138 (.tmp 14) rfl wr2.heap.size 0 rfl L _ HRa.out Try.underlying138 rfl HIL.out ?_))
              go_at_call 58
              refine (HCA.out _ (grown_trans HG2.out HGa.out)).mono ?_
              rintro e w2 ⟨rfl, hg3⟩
              have HG4 : Hid (wr2.grownBy w2 none) := hid (grown_trans HGa.out hg3)
              have HR4 : Hid (w2.rangeAt wr2.heap.size 0 L) := hid (HRL.out _ (grown_trans HGaL.out hg3))
              clear hg3
              cases ok with
              | true =>
                have HX := hid (HOLD.out _ HG4.out)
                have HNZ : Hid (fstI (wgt s R) (opJ s F R fd k IR (j + 1)) = some y) := hid (by rw [HNX.out]; rfl)
                clear HNX HCA HNEW HTH
                go_wp2_with fail
                go_roundw
                case rel =>
                  obtain ⟨e1, e2, e3, e4⟩ := HX.out
                  exact ⟨j + 1, by omega, by go_num, by rw [HNZ.out]; rfl, e1, by rw [HNZ.out, ← HM.out]; exact e2, e3, e4⟩
                case measure => simp [intOf]; omega
              | false =>
                have HX := hid (HNEW.out _ HG4.out)
                have HNZ : Hid (fstI (wgt s R) (opJ s F R fd k IR (j + 1)) = some it) := hid (by rw [HNX.out]; rw [if_neg (by simp), HNY.out]; rfl)
                have HT4 := hid (HTH.out _ HG4.out)
                clear HNX HCA HOLD HTH HNEW
                go_wp2_with (first
                  | (refine wpList_load_mid rfl 138 (.tmp 14) rfl wr2.heap.size 0 rfl L _ HR4.out Try.underlying138 rfl HIL.out ?_)
                  | (refine wpList_store_mid rfl 138 (.tmp 8) (.tmp 47) rfl (w.heap.size + 1) 0 L.toArray rfl rfl HT4.out HILs.out HONA.out ?_))
                go_roundw
                case rel =>
                  obtain ⟨e1, e2, e3, e4⟩ := HX.out
                  exact ⟨j + 1, by omega, by go_num, by rw [HNZ.out]; rfl, e1, by rw [HNZ.out, HFL.out]; exact e2, e3, e4⟩
                case measure => simp [intOf]; omega
        · have ej : j = IR.length := by omega
          subst ej
          rw [HJA.out] at HC1 ⊢
          obtain ⟨f1, hf1⟩ : ∃ f1, f1 = (fstI (wgt s R) (opN s F R fd (k + 1))).isSome := ⟨_, rfl⟩
          rw [← hf1]
          have HF1 := hid hf1
          clear hf1 hC0 hC1 hg2 hor HHK HJS
          go_wp2_with fail
          go_roundw
          case rel => exact ⟨k + 1, HK1.out, by go_num, by rw [HF1.out], HC0.out, HC1.out, HG2.out⟩
          case measure =>
            have := HK1.out
            simp [intOf]
            omega
    · have hkl : k = R.length := by omega
      subst hkl
      obtain ⟨b, hbb⟩ : ∃ b, b = fstI (wgt s R) (opN s F R fd R.length) := ⟨_, rfl⟩
      rw [← hbb] at hB1 ⊢
      obtain ⟨M, hM⟩ : ∃ M, M = fstL (wgt s R) b := ⟨_, rfl⟩
      have hMl : M.length = 24 := by rw [hM]; exact fstL_len _ _
      have HIM : Hid ((Try.prog.info? 138).map (·.size) = some M.length) := hid (by rw [hMl]; exact info_inst)
      have HIMs : Hid ((Try.prog.info? 138).map (·.size) = some M.toArray.size) := hid (by rw [List.size_toArray, hMl]; exact info_inst)
      have HOM : Hid (M.toArray.all (·.oneCell') = true) := hid (all_oneCell_toArray (by rw [hM]; exact fstL_one _ _))
      rw [← hM] at hB1
      have HRM : Hid (wr.rangeAt (w.heap.size + 1) 0 M) := hid (range_of_blk hB1 rfl)
      have hB0' : wr.heap[w.heap.size]? = some (.cells ([.int .i64 0, .int .i64 0, .int .i64 0, .int .i64 0, .int .i64 0, .int .i64 0, .int .i64 0, .int .i64 0, .int .i64 0, .int .i64 0, .int .i64 0, .int .i64 0, .int .i64 0, .int .i64 0, .int .i64 0, .int .i64 0, .bool false, .bool false, .bool false, .bool false, .int .i64 0, .int .i64 0, .int .i64 0, .int .i64 0] : List Value).toArray 138 (0, 0)) := hB0
      have HTH : Hid (wr.there w.heap.size 0 M.toArray.size) := hid (there_drop hB0' (by simp [hMl]))
      have HBF : Hid ((wr.setCells w.heap.size 0 M).heap[w.heap.size]? = some (.cells M.toArray 138 (0, 0))) := hid (blk_whole hB0' (by rw [hMl]; rfl))
      have HGF : Hid (w.grownBy (wr.setCells w.heap.size 0 M) none) := hid (grown_setCells (Nat.le_refl _) _ _ HG.out)
      have HMM := hid hM
      have HBB := hid hbb
      obtain ⟨f1, hf1⟩ : ∃ f1, f1 = b.isSome := ⟨_, rfl⟩
      rw [← hf1]
      have HF1 := hid hf1
      clear hf1 hM hbb hB0 hB0' hB1 hg
      go_wp2_with (first
        | (refine wpList_load_mid rfl 138 (.tmp 8) rfl (w.heap.size + 1) 0 rfl M _ HRM.out Try.underlying138 rfl HIM.out ?_)
        | (refine wpList_store_mid rfl 138 (.tmp 6) (.tmp 50) rfl w.heap.size 0 M.toArray rfl rfl HTH.out HIMs.out HOM.out ?_))
      refine bodyPost_ret (res_ct Try.results78 rfl HBF.out Try.underlying138 rfl HIMs.out rfl) rfl ⟨?_, HGF.out⟩
      rw [← HBB.out, ← HMM.out, ← HF1.out]
      rfl

end Go.Proofs.Ythlhbjnkohinmaa
