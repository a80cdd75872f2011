import Derived.Test.YthlhbjnkohinmabPart02
import Derived.Test.YthlhbjnkohinmabPart05
/- The program's variables: what a term of a test is; a test. -/
namespace Go.Proofs.Ythlhbjnkohinmab
open Go.RowKit

/-- What a digit or a variable is, as the program keeps it. -/
def pofE (e : Env) (t : Int) : Int := ofE 0 e t
abbrev digO (e : Env) : Obj := .cells #[.bool (dB e 0), .bool (dB e 1), .bool (dB e 2), .bool (dB e 3), .int .i64 (dI e 0), .int .i64 (dI e 1), .int .i64 (dI e 2), .int .i64 (dI e 3)] 117

set_option maxRecDepth 20000 in
set_option maxHeartbeats 2000000 in
theorem pof_core (b0 b1 b2 b3 : Bool) (d0 d1 d2 d3 k v r : Int) (w : World) (h : (k = 1 ∧ r = v) ∨ (k = 2 ∧ v = 0 ∧ r = d0) ∨ (k = 2 ∧ v = 1 ∧ r = d1) ∨ (k = 2 ∧ v = 2 ∧ r = d2) ∨ (k = 2 ∧ v = 3 ∧ r = d3)) :
    Calls Try.prog 85 #[.agg #[.bool b0, .bool b1, .bool b2, .bool b3, .int .i64 d0, .int .i64 d1, .int .i64 d2, .int .i64 d3], .agg #[.int .i64 k, .int .i64 v]] w fun e w' => e = .returned (.int .i64 r) ∧ w' = (w.alloc (.cells #[.bool b0, .bool b1, .bool b2, .bool b3, .int .i64 d0, .int .i64 d1, .int .i64 d2, .int .i64 d3] 117)).alloc (.cells #[.int .i64 k, .int .i64 v] 138) := by
  rcases h with ⟨rfl, rfl⟩ | ⟨rfl, rfl, rfl⟩ | ⟨rfl, rfl, rfl⟩ | ⟨rfl, rfl, rfl⟩ | ⟨rfl, rfl, rfl⟩
  all_goals
    go_enter Try.func85, Try.ntmps85
    go_wp2_with fail
    go_ret
    exact ⟨rfl, rfl⟩
theorem sim_cases {t : Int} (h : simB t = true) : digB t = true ∨ (digB t = false ∧ (t = 119 ∨ t = 120 ∨ t = 121 ∨ t = 122)) := by
  cases hd : digB t with
  | true => exact .inl rfl
  | false =>
    have hl : letB t = true := by simpa [simB, hd] using h
    simp only [letB, decide_eq_true_eq] at hl
    right
    exact ⟨rfl, by omega⟩
theorem pof_case (e : Env) (t : Int) (h : simB t = true) : (opK t = 1 ∧ ofE 0 e t = opV t) ∨ (opK t = 2 ∧ opV t = 0 ∧ ofE 0 e t = dI e 0) ∨ (opK t = 2 ∧ opV t = 1 ∧ ofE 0 e t = dI e 1) ∨ (opK t = 2 ∧ opV t = 2 ∧ ofE 0 e t = dI e 2) ∨ (opK t = 2 ∧ opV t = 3 ∧ ofE 0 e t = dI e 3) := by
  rcases sim_cases h with hd | ⟨_, rfl | rfl | rfl | rfl⟩
  · left
    exact ⟨by simp [opK, hd], by simp [opV, ofE, hd]⟩
  · exact .inr (.inl ⟨rfl, rfl, rfl⟩)
  · exact .inr (.inr (.inl ⟨rfl, rfl, rfl⟩))
  · exact .inr (.inr (.inr (.inl ⟨rfl, rfl, rfl⟩)))
  · exact .inr (.inr (.inr (.inr ⟨rfl, rfl, rfl⟩)))

set_option maxRecDepth 20000 in
set_option maxHeartbeats 4000000 in
theorem pholds_core (b0 b1 b2 b3 : Bool) (d0 d1 d2 d3 k c g p1 p2 q1 q2 x y : Int) (w : World) (hg : g = 60 ∨ g = 61 ∨ g = 35)
    (H1 : Hid (∀ W, Calls Try.prog 85 #[.agg #[.bool b0, .bool b1, .bool b2, .bool b3, .int .i64 d0, .int .i64 d1, .int .i64 d2, .int .i64 d3], .agg #[.int .i64 p1, .int .i64 p2]] W fun e w' => e = .returned (.int .i64 x) ∧ w' = (W.alloc (.cells #[.bool b0, .bool b1, .bool b2, .bool b3, .int .i64 d0, .int .i64 d1, .int .i64 d2, .int .i64 d3] 117)).alloc (.cells #[.int .i64 p1, .int .i64 p2] 138)))
    (H2 : Hid (∀ W, Calls Try.prog 85 #[.agg #[.bool b0, .bool b1, .bool b2, .bool b3, .int .i64 d0, .int .i64 d1, .int .i64 d2, .int .i64 d3], .agg #[.int .i64 q1, .int .i64 q2]] W fun e w' => e = .returned (.int .i64 y) ∧ w' = (W.alloc (.cells #[.bool b0, .bool b1, .bool b2, .bool b3, .int .i64 d0, .int .i64 d1, .int .i64 d2, .int .i64 d3] 117)).alloc (.cells #[.int .i64 q1, .int .i64 q2] 138))) :
    Calls Try.prog 78 #[.agg #[.bool b0, .bool b1, .bool b2, .bool b3, .int .i64 d0, .int .i64 d1, .int .i64 d2, .int .i64 d3], .agg #[.int .i64 k, .int .i64 c, .int .u8 g, .int .i64 p1, .int .i64 p2, .int .i64 q1, .int .i64 q2]] w fun e w' => e = .returned (.bool (tstB g x y)) ∧ w.grownBy w' none := by
  obtain ⟨r, hr⟩ : ∃ r, r = tstB g x y := ⟨_, rfl⟩
  rw [← hr]
  have HR := hid hr
  clear hr
  rcases hg with rfl | rfl | rfl
  · have HR2 : Hid (r = decide (x < y)) := hid (by rw [HR.out]; simp [tstB])
    go_enter Try.func78, Try.ntmps78
    go_wp2_with fail
    go_at_call 85
    refine (H1.out _).mono ?_
    rintro e w1 ⟨rfl, rfl⟩
    go_wp2_with fail
    go_at_call 85
    refine (H2.out _).mono ?_
    rintro e w2 ⟨rfl, rfl⟩
    go_wp2_with fail
    go_ret
    exact ⟨by rw [HR2.out]; rfl, grown_alloc (grown_alloc (grown_alloc (grown_alloc (grown_alloc (grown_alloc (grown_refl _ _) _) _) _) _) _) _⟩
  · have HR2 : Hid (r = (x == y)) := hid (by rw [HR.out]; simp [tstB]; by_cases h : x = y <;> simp [h])
    go_enter Try.func78, Try.ntmps78
    go_wp2_with fail
    go_at_call 85
    refine (H1.out _).mono ?_
    rintro e w1 ⟨rfl, rfl⟩
    go_wp2_with fail
    go_at_call 85
    refine (H2.out _).mono ?_
    rintro e w2 ⟨rfl, rfl⟩
    go_wp2_with fail
    go_ret
    exact ⟨by rw [HR2.out]; rfl, grown_alloc (grown_alloc (grown_alloc (grown_alloc (grown_alloc (grown_alloc (grown_refl _ _) _) _) _) _) _) _⟩
  · have HR2 : Hid (r = (x != y)) := hid (by rw [HR.out]; simp [tstB]; by_cases h : x = y <;> simp [h])
    go_enter Try.func78, Try.ntmps78
    go_wp2_with fail
    go_at_call 85
    refine (H1.out _).mono ?_
    rintro e w1 ⟨rfl, rfl⟩
    go_wp2_with fail
    go_at_call 85
    refine (H2.out _).mono ?_
    rintro e w2 ⟨rfl, rfl⟩
    go_wp2_with fail
    go_ret
    exact ⟨by rw [HR2.out]; rfl, grown_alloc (grown_alloc (grown_alloc (grown_alloc (grown_alloc (grown_alloc (grown_refl _ _) _) _) _) _) _) _⟩

/-- A test, as a value. -/
def testV (k c g t1 t2 : Int) : Value := .agg #[.int .i64 k, .int .i64 c, .int .u8 g, .int .i64 (opK t1), .int .i64 (opV t1), .int .i64 (opK t2), .int .i64 (opV t2)]
theorem pholds_any (e : Env) (k c g t1 t2 : Int) (w : World) (hg : sgnB g = true) (h1 : simB t1 = true) (h2 : simB t2 = true) :
    Calls Try.prog 78 #[digV e, testV k c g t1 t2] w fun r w' => r = .returned (.bool (tstB g (ofE 0 e t1) (ofE 0 e t2))) ∧ w.grownBy w' none :=
  pholds_core _ _ _ _ _ _ _ _ k c g _ _ _ _ _ _ w (by simpa [sgnB, or_assoc] using hg) (hid (fun W => pof_core _ _ _ _ _ _ _ _ _ _ _ W (pof_case e t1 h1))) (hid (fun W => pof_core _ _ _ _ _ _ _ _ _ _ _ W (pof_case e t2 h2)))

end Go.Proofs.Ythlhbjnkohinmab

/- The program's instantiations: over a negated pattern, and over a test. -/
namespace Go.Proofs.Ythlhbjnkohinmab
open Go.RowKit

/-- The cells of instantiations of one rule. -/
def insC (wt : Int) (l : List In) : List Value := l.flatMap (inCells wt)
def tstL (k c g t1 t2 : Int) : List Value := [.int .i64 k, .int .i64 c, .int .u8 g, .int .i64 (opK t1), .int .i64 (opV t1), .int .i64 (opK t2), .int .i64 (opV t2)]
theorem insC_snoc (wt : Int) (l : List In) (i : In) : insC wt (l ++ [i]) = insC wt l ++ inCells wt i := by simp [insC]
theorem pfilter_take {α : Type} (p : α → Bool) (l : List α) (k : Nat) (hk : k < l.length) : (l.take (k + 1)).filter p = (l.take k).filter p ++ (if p l[k] then [l[k]] else []) := by
  rw [List.take_succ_eq_append_getElem hk, List.filter_append]
  congr 1
  simp only [List.filter_cons, List.filter_nil]
theorem Try.infoI : (Try.prog.info? 119).map (fun i => (i.zero, i.size, i.bytes)) = some (some (.agg #[.int .i64 0, .int .i64 0, .int .i64 0, .int .i64 0, .int .i64 0, .int .i64 0, .int .i64 0, .int .i64 0, .int .i64 0, .int .i64 0, .int .i64 0, .int .i64 0, .int .i64 0, .int .i64 0, .int .i64 0, .int .i64 0, .bool false, .bool false, .bool false, .bool false, .int .i64 0, .int .i64 0, .int .i64 0, .int .i64 0]), 24, 168) := by kernel_rfl

set_option maxRecDepth 20000 in
set_option maxHeartbeats 1000000 in
theorem pwithout_any (wt : Int) (l : List In) (la : Option Addr) (lc B : Nat) (kd c g t1 t2 : Int) (F : List PFact) (fa : Option Addr) (fc B2 : Nat) (w : World) (hll : l.length ≤ 1000000)
    (hrow : w.ownsRow B 119 24 (.slice la l.length lc) l.length (insC wt l)) (h1 : terB t1 = true) (h2 : terB t2 = true) (hFl : F.length ≤ 60) (hfr : w.ownsRow B2 73 4 (.slice fa F.length fc) F.length (fcCells F)) :
    Calls Try.prog 62 #[.slice la l.length lc, condV kd c g t1 t2, .slice fa F.length fc] w fun e w' => ∃ v, e = .returned v ∧ w'.ownsRow w.heap.size 119 24 v (l.filter (fun i : In => noneB F i.env c t1 t2)).length (insC wt (l.filter (fun i : In => noneB F i.env c t1 t2))) ∧ w.grownBy w' none := by
  obtain ⟨i0, hi0, hz0, hz1, hz2⟩ := info_parts Try.infoI
  obtain ⟨C, hC⟩ : ∃ C, C = cndL kd c g t1 t2 := ⟨_, rfl⟩
  have hCl : C.length = 7 := by rw [hC]; rfl
  have hCV : condV kd c g t1 t2 = .agg C.toArray := by rw [hC]; rfl
  rw [hCV]
  have HCALL : Hid (∀ (k : Nat) (hk : k < l.length) (W : World), w.grownBy W none → Calls Try.prog 77 #[.agg ((inCells wt l[k]).drop 16).toArray, .agg C.toArray, .slice fa F.length fc] W fun r w' => r = .returned (.bool (!(noneB F l[k].env c t1 t2))) ∧ W.grownBy w' none) := hid (fun k hk W hW => by
    rw [hC]
    exact pany_any l[k].env kd c g t1 t2 F fa fc B2 W h1 h2 hFl (own_kept hfr hW (fun g hg => by cases hg)))
  obtain ⟨p, hp⟩ : ∃ p : In → Bool, p = (fun i : In => noneB F i.env c t1 t2) := ⟨_, rfl⟩
  rw [← hp]
  have HP : Hid (∀ (k : Nat) (hk : k < l.length), noneB F l[k].env c t1 t2 = p l[k]) := hid (fun k hk => by rw [hp])
  have HROW := hid hrow
  have HBC : Hid ((w.alloc (.cells C.toArray 140)).heap[w.heap.size]? = some (.cells C.toArray 140 (0, 0))) := hid (heap_alloc_new w _)
  have HIC : Hid ((Try.prog.info? 140).map (·.size) = some C.length) := hid (by rw [hCl]; exact info_cond)
  clear hrow hC hCV hp hfr h1 h2
  go_enter Try.func62, Try.ntmps62
  go_wp2_with fail
  go_loopw [7, 12] (fun t i wr => ∃ k : Nat, k ≤ l.length ∧ i = .int .i64 k ∧ wr.ownsRow w.heap.size 119 24 t ((l.take k).filter p).length (insC wt ((l.take k).filter p)) ∧ w.grownBy wr none ∧ wr.heap[w.heap.size]? = some (.cells C.toArray 140 (0, 0))) (fun _ i _ => l.length - (intOf i).toNat)
  case atStart => exact ⟨0, by omega, rfl, World.ownsRow_nil _ _ _ _, grown_alloc (grown_refl _ _) _, HBC.out⟩
  case round =>
    obtain ⟨k, hk, rfl, hown, hg, hbc⟩ := hrel
    have HG := hid hg
    have HOW := hid hown
    have HB := hid hbc
    by_cases hlt : k < l.length
    · have how := own_kept HROW.out hg (fun g hg => by cases hg)
      obtain ⟨gf, rfl, _, _, hgl, hcell⟩ := own_cell how (by omega)
      obtain ⟨L, hL⟩ : ∃ L, L = inCells wt l[k] := ⟨_, rfl⟩
      have HRG : Hid (wr.rangeAt gf (k * 24) L) := hid (by rw [hL]; exact row_range (inCells_len wt) hcell hlt)
      have hLl : L.length = 24 := by rw [hL]; rfl
      have HIL : Hid ((Try.prog.info? 119).map (·.size) = some L.length) := hid (by rw [hLl]; exact info_inst)
      have HIZ : Hid ((Try.prog.info? 119).map (fun i => (i.zero, i.size)) = some (some (.agg #[.int .i64 0, .int .i64 0, .int .i64 0, .int .i64 0, .int .i64 0, .int .i64 0, .int .i64 0, .int .i64 0, .int .i64 0, .int .i64 0, .int .i64 0, .int .i64 0, .int .i64 0, .int .i64 0, .int .i64 0, .int .i64 0, .bool false, .bool false, .bool false, .bool false, .int .i64 0, .int .i64 0, .int .i64 0, .int .i64 0]), L.length)) := hid (by rw [hLl]; kernel_rfl)
      have HON : Hid (∀ u ∈ L, u.oneCell' = true) := hid (by rw [hL]; exact inCells_one _ _)
      have HONA : Hid (L.toArray.all (·.oneCell') = true) := hid (all_oneCell_toArray HON.out)
      have HBN : Hid ((wr.alloc (.cells L.toArray 119)).heap[wr.heap.size]? = some (.cells L.toArray 119 (0, 0))) := hid (heap_alloc_new wr _)
      have HBC1 : Hid ((wr.alloc (.cells L.toArray 119)).heap[w.heap.size]? = some (.cells C.toArray 140 (0, 0))) := hid ((Below.heap_alloc _ _ _ (lt_of_block hbc)).trans hbc)
      obtain ⟨D, hD⟩ : ∃ D, D = L.drop 16 := ⟨_, rfl⟩
      have hDl : D.length = 8 := by rw [hD]; simp [hLl]
      have HID : Hid ((Try.prog.info? 117).map (·.size) = some D.length) := hid (by rw [hDl]; exact info_dig)
      have HRD : Hid ((wr.alloc (.cells L.toArray 119)).rangeAt wr.heap.size 16 D) := hid (range_drop HBN.out (fun j v hv => by rw [hD, List.getElem?_drop] at hv; exact hv))
      have HRC : Hid ((wr.alloc (.cells L.toArray 119)).rangeAt w.heap.size 0 C) := hid (range_of_blk HBC1.out rfl)
      have HCA := hid (HCALL.out k hlt)
      rw [HP.out k hlt, ← hL, ← hD] at HCA
      have hjl := Nat.le_trans (List.length_filter_le p (l.take k)) (List.length_take_le k l)
      obtain ⟨a, m, cc, rfl⟩ := own_slice hown
      have em := own_len hown
      subst em
      have hsz := hg.size
      have hwl : w.heap.size < wr.heap.size := lt_of_block hbc
      have hne : gf ≠ wr.heap.size := by omega
      have HSUC := hid (pfilter_take p l k hlt)
      obtain ⟨ok, hok⟩ : ∃ ok, ok = p l[k] := ⟨_, rfl⟩
      rw [← hok] at HCA HSUC
      have HFIN : Hid (ok = true → ∀ (w3 : World) (v' : Value), w3.ownsRow w.heap.size 119 24 v' (((l.take k).filter p).length + 1) (insC wt ((l.take k).filter p) ++ L) → w3.ownsRow w.heap.size 119 24 v' ((l.take (k + 1)).filter p).length (insC wt ((l.take (k + 1)).filter p))) := hid (fun e w3 v' h => by
        rw [HSUC.out, if_pos e, insC_snoc, List.length_append]
        rw [hL] at h
        exact h)
      have HSKIP : Hid (ok = false → (l.take (k + 1)).filter p = (l.take k).filter p) := hid (fun e => by rw [HSUC.out, e]; simp)
      have HWG : Hid (∀ o, wr.grownBy (wr.alloc o) none) := hid (fun o => grown_alloc (grown_refl _ _) o)
      have HOWG : Hid (∀ W, wr.grownBy W none → W.ownsRow w.heap.size 119 24 (.slice a ((l.take k).filter p).length cc) ((l.take k).filter p).length (insC wt ((l.take k).filter p))) := hid (fun W hW => own_kept HOW.out hW (fun g hg => by cases hg))
      have HLT := hid (fun g hg => (HOW.out.lt g hg).1)
      have HNB : Hid ((Value.slice a ((l.take k).filter p).length cc).ownBlock ≠ some w.heap.size) := hid (fun e => own_ne_ty HOW.out HB.out (by decide) e)
      obtain ⟨nl, hnl⟩ : ∃ nl, nl = ((l.take k).filter p).length := ⟨_, rfl⟩
      obtain ⟨xs, hxs⟩ : ∃ xs, xs = insC wt ((l.take k).filter p) := ⟨_, rfl⟩
      rw [← hnl] at HFIN HOWG HOW HLT HNB hjl ⊢
      rw [← hxs] at HFIN HOWG HOW
      have HNL := hid hnl
      have HXS := hid hxs
      clear hnl hxs HSUC hL hD how hcell hown hg hbc hok HCALL
      go_wp2_with (first
        | (refine wpList_load_mid rfl 119 (.tmp 14) rfl gf (k * 24) rfl L _ HRG.out Try.underlying119 rfl HIL.out ?_)
        | (refine wpList_store_new rfl 119 (.tmp 9) (.tmp 15) rfl _ L rfl rfl hLl.symm HIL.out HONA.out ?_)
        | (refine wpList_load_mid rfl 117 (.tmp 16) rfl wr.heap.size 16 rfl D _ HRD.out Try.underlying117 rfl HID.out ?_)
        | (refine wpList_load_mid rfl 140 (.tmp 4) rfl w.heap.size 0 rfl C _ HRC.out Try.underlying140 rfl HIC.out ?_))
      go_at_call 77
      refine (HCA.out _ (grown_trans HG.out (HWG.out _))).mono ?_
      rintro e w1 ⟨rfl, hg1⟩
      have hB1 := (hg1.block _ (lt_of_block HBN.out) (by simp)).trans HBN.out
      have HRL : Hid (w1.rangeAt wr.heap.size 0 L) := hid (range_of_blk hB1 rfl)
      have HG1 := hid (grown_trans (HWG.out _) hg1)
      have HBC2 : Hid (w1.heap[w.heap.size]? = some (.cells C.toArray 140 (0, 0))) := hid ((hg1.block _ (lt_of_block HBC1.out) (by simp)).trans HBC1.out)
      have how1 := HOWG.out _ (grown_alloc HG1.out (.cells L.toArray 119))
      have hsw1 : w.heap.size ≤ w1.heap.size := by have := HG1.out.size; omega
      clear hg1 hB1 HBN HBC1 HRG HRD HRC HCA
      cases ok with
      | true =>
        have HFI := hid (HFIN.out rfl)
        clear HFIN HSKIP
        go_wp2_with (first
          | (refine wpList_load_mid rfl 119 (.tmp 9) rfl wr.heap.size 0 rfl L _ HRL.out Try.underlying119 rfl HIL.out ?_)
          | (refine wpList_build_one rfl 86 119 (.tmp 23) rfl _ L rfl Try.underlying86 HIZ.out (by omega) (by omega) ?_)
          | (at_builtin; refine wpList_append_own _ rfl (.tmp 22) (.tmp 24) 86 rfl (w.heap.size) 119 i0 (.agg #[.int .i64 0, .int .i64 0, .int .i64 0, .int .i64 0, .int .i64 0, .int .i64 0, .int .i64 0, .int .i64 0, .int .i64 0, .int .i64 0, .int .i64 0, .int .i64 0, .int .i64 0, .int .i64 0, .int .i64 0, .int .i64 0, .bool false, .bool false, .bool false, .bool false, .int .i64 0, .int .i64 0, .int .i64 0, .int .i64 0]) 24 168 Try.underlying86 hi0 hz0 hz1 hz2 rfl (by decide) _ _ _ rfl how1 _ 1 1 L rfl (by omega) (fun j u hj => news_at1 hj) HON.out (by unfold maxLen; omega) (by omega) (by simp; omega) ?_))
        intro v' w3 hown3 hg3 _
        have HO3 := hid hown3
        have HG3 := hid hg3
        have HB3 : Hid (w3.heap[w.heap.size]? = some (.cells C.toArray 140 (0, 0))) := hid (by
          have h4 := (Below.heap_alloc w1 (.cells L.toArray 119) _ (lt_of_block HBC2.out)).trans HBC2.out
          exact (hg3.block _ (lt_of_block h4) (fun e => HNB.out e.symm)).trans h4)
        clear hown3 hg3
        go_wp2_with fail
        go_roundw
        case rel => exact ⟨k + 1, by omega, by go_num, HFI.out _ _ HO3.out, grown_own2 (grown_trans HG.out (grown_alloc HG1.out _)) HG3.out HLT.out, HB3.out⟩
        case measure => simp [intOf]; omega
      | false =>
        have HSK := hid (HSKIP.out rfl)
        clear HFIN HSKIP how1
        go_wp2_with fail
        go_roundw
        case rel => exact ⟨k + 1, by omega, by go_num, by rw [HSK.out, ← HNL.out, ← HXS.out]; exact HOWG.out _ HG1.out, grown_trans HG.out HG1.out, HBC2.out⟩
        case measure => simp [intOf]; omega
    · have hkl : k = l.length := by omega
      subst hkl
      rw [List.take_length] at HOW
      clear hg hown hbc
      go_wp2_with fail
      go_ret
      exact ⟨_, rfl, HOW.out, HG.out⟩

set_option maxRecDepth 20000 in
set_option maxHeartbeats 1000000 in
theorem pholding_any (wt : Int) (l : List In) (la : Option Addr) (lc B : Nat) (kd c g t1 t2 : Int) (w : World) (hll : l.length ≤ 1000000)
    (hrow : w.ownsRow B 119 24 (.slice la l.length lc) l.length (insC wt l)) (hg : sgnB g = true) (h1 : simB t1 = true) (h2 : simB t2 = true) :
    Calls Try.prog 63 #[.slice la l.length lc, testV kd c g t1 t2] w fun e w' => ∃ v, e = .returned v ∧ w'.ownsRow w.heap.size 119 24 v (l.filter (fun i : In => tstB g (ofE 0 i.env t1) (ofE 0 i.env t2))).length (insC wt (l.filter (fun i : In => tstB g (ofE 0 i.env t1) (ofE 0 i.env t2)))) ∧ w.grownBy w' none := by
  obtain ⟨i0, hi0, hz0, hz1, hz2⟩ := info_parts Try.infoI
  obtain ⟨C, hC⟩ : ∃ C, C = tstL kd c g t1 t2 := ⟨_, rfl⟩
  have hCl : C.length = 7 := by rw [hC]; rfl
  have hCV : testV kd c g t1 t2 = .agg C.toArray := by rw [hC]; rfl
  rw [hCV]
  have HCALL : Hid (∀ (k : Nat) (hk : k < l.length) (W : World), w.grownBy W none → Calls Try.prog 78 #[.agg ((inCells wt l[k]).drop 16).toArray, .agg C.toArray] W fun r w' => r = .returned (.bool (tstB g (ofE 0 l[k].env t1) (ofE 0 l[k].env t2))) ∧ W.grownBy w' none) := hid (fun k hk W hW => by
    rw [hC]
    exact pholds_any l[k].env kd c g t1 t2 W hg h1 h2)
  obtain ⟨p, hp⟩ : ∃ p : In → Bool, p = (fun i : In => tstB g (ofE 0 i.env t1) (ofE 0 i.env t2)) := ⟨_, rfl⟩
  rw [← hp]
  have HP : Hid (∀ (k : Nat) (hk : k < l.length), tstB g (ofE 0 l[k].env t1) (ofE 0 l[k].env t2) = p l[k]) := hid (fun k hk => by rw [hp])
  have HROW := hid hrow
  have HBC : Hid ((w.alloc (.cells C.toArray 140)).heap[w.heap.size]? = some (.cells C.toArray 140 (0, 0))) := hid (heap_alloc_new w _)
  have HIC : Hid ((Try.prog.info? 140).map (·.size) = some C.length) := hid (by rw [hCl]; exact info_cond)
  clear hrow hC hCV hp hg h1 h2
  go_enter Try.func63, Try.ntmps63
  go_wp2_with fail
  go_loopw [5, 10] (fun t i wr => ∃ k : Nat, k ≤ l.length ∧ i = .int .i64 k ∧ wr.ownsRow w.heap.size 119 24 t ((l.take k).filter p).length (insC wt ((l.take k).filter p)) ∧ w.grownBy wr none ∧ wr.heap[w.heap.size]? = some (.cells C.toArray 140 (0, 0))) (fun _ i _ => l.length - (intOf i).toNat)
  case atStart => exact ⟨0, by omega, rfl, World.ownsRow_nil _ _ _ _, grown_alloc (grown_refl _ _) _, HBC.out⟩
  case round =>
    obtain ⟨k, hk, rfl, hown, hg, hbc⟩ := hrel
    have HG := hid hg
    have HOW := hid hown
    have HB := hid hbc
    by_cases hlt : k < l.length
    · have how := own_kept HROW.out hg (fun g hg => by cases hg)
      obtain ⟨gf, rfl, _, _, hgl, hcell⟩ := own_cell how (by omega)
      obtain ⟨L, hL⟩ : ∃ L, L = inCells wt l[k] := ⟨_, rfl⟩
      have HRG : Hid (wr.rangeAt gf (k * 24) L) := hid (by rw [hL]; exact row_range (inCells_len wt) hcell hlt)
      have hLl : L.length = 24 := by rw [hL]; rfl
      have HIL : Hid ((Try.prog.info? 119).map (·.size) = some L.length) := hid (by rw [hLl]; exact info_inst)
      have HIZ : Hid ((Try.prog.info? 119).map (fun i => (i.zero, i.size)) = some (some (.agg #[.int .i64 0, .int .i64 0, .int .i64 0, .int .i64 0, .int .i64 0, .int .i64 0, .int .i64 0, .int .i64 0, .int .i64 0, .int .i64 0, .int .i64 0, .int .i64 0, .int .i64 0, .int .i64 0, .int .i64 0, .int .i64 0, .bool false, .bool false, .bool false, .bool false, .int .i64 0, .int .i64 0, .int .i64 0, .int .i64 0]), L.length)) := hid (by rw [hLl]; kernel_rfl)
      have HON : Hid (∀ u ∈ L, u.oneCell' = true) := hid (by rw [hL]; exact inCells_one _ _)
      have HONA : Hid (L.toArray.all (·.oneCell') = true) := hid (all_oneCell_toArray HON.out)
      have HBN : Hid ((wr.alloc (.cells L.toArray 119)).heap[wr.heap.size]? = some (.cells L.toArray 119 (0, 0))) := hid (heap_alloc_new wr _)
      have HBC1 : Hid ((wr.alloc (.cells L.toArray 119)).heap[w.heap.size]? = some (.cells C.toArray 140 (0, 0))) := hid ((Below.heap_alloc _ _ _ (lt_of_block hbc)).trans hbc)
      obtain ⟨D, hD⟩ : ∃ D, D = L.drop 16 := ⟨_, rfl⟩
      have hDl : D.length = 8 := by rw [hD]; simp [hLl]
      have HID : Hid ((Try.prog.info? 117).map (·.size) = some D.length) := hid (by rw [hDl]; exact info_dig)
      have HRD : Hid ((wr.alloc (.cells L.toArray 119)).rangeAt wr.heap.size 16 D) := hid (range_drop HBN.out (fun j v hv => by rw [hD, List.getElem?_drop] at hv; exact hv))
      have HRC : Hid ((wr.alloc (.cells L.toArray 119)).rangeAt w.heap.size 0 C) := hid (range_of_blk HBC1.out rfl)
      have HCA := hid (HCALL.out k hlt)
      rw [HP.out k hlt, ← hL, ← hD] at HCA
      have hjl := Nat.le_trans (List.length_filter_le p (l.take k)) (List.length_take_le k l)
      obtain ⟨a, m, cc, rfl⟩ := own_slice hown
      have em := own_len hown
      subst em
      have hsz := hg.size
      have hwl : w.heap.size < wr.heap.size := lt_of_block hbc
      have hne : gf ≠ wr.heap.size := by omega
      have HSUC := hid (pfilter_take p l k hlt)
      obtain ⟨ok, hok⟩ : ∃ ok, ok = p l[k] := ⟨_, rfl⟩
      rw [← hok] at HCA HSUC
      have HFIN : Hid (ok = true → ∀ (w3 : World) (v' : Value), w3.ownsRow w.heap.size 119 24 v' (((l.take k).filter p).length + 1) (insC wt ((l.take k).filter p) ++ L) → w3.ownsRow w.heap.size 119 24 v' ((l.take (k + 1)).filter p).length (insC wt ((l.take (k + 1)).filter p))) := hid (fun e w3 v' h => by
        rw [HSUC.out, if_pos e, insC_snoc, List.length_append]
        rw [hL] at h
        exact h)
      have HSKIP : Hid (ok = false → (l.take (k + 1)).filter p = (l.take k).filter p) := hid (fun e => by rw [HSUC.out, e]; simp)
      have HWG : Hid (∀ o, wr.grownBy (wr.alloc o) none) := hid (fun o => grown_alloc (grown_refl _ _) o)
      have HOWG : Hid (∀ W, wr.grownBy W none → W.ownsRow w.heap.size 119 24 (.slice a ((l.take k).filter p).length cc) ((l.take k).filter p).length (insC wt ((l.take k).filter p))) := hid (fun W hW => own_kept HOW.out hW (fun g hg => by cases hg))
      have HLT := hid (fun g hg => (HOW.out.lt g hg).1)
      have HNB : Hid ((Value.slice a ((l.take k).filter p).length cc).ownBlock ≠ some w.heap.size) := hid (fun e => own_ne_ty HOW.out HB.out (by decide) e)
      obtain ⟨nl, hnl⟩ : ∃ nl, nl = ((l.take k).filter p).length := ⟨_, rfl⟩
      obtain ⟨xs, hxs⟩ : ∃ xs, xs = insC wt ((l.take k).filter p) := ⟨_, rfl⟩
      rw [← hnl] at HFIN HOWG HOW HLT HNB hjl ⊢
      rw [← hxs] at HFIN HOWG HOW
      have HNL := hid hnl
      have HXS := hid hxs
      clear hnl hxs HSUC hL hD how hcell hown hg hbc hok HCALL
      go_wp2_with (first
        | (refine wpList_load_mid rfl 119 (.tmp 12) rfl gf (k * 24) rfl L _ HRG.out Try.underlying119 rfl HIL.out ?_)
        | (refine wpList_store_new rfl 119 (.tmp 7) (.tmp 13) rfl _ L rfl rfl hLl.symm HIL.out HONA.out ?_)
        | (refine wpList_load_mid rfl 117 (.tmp 14) rfl wr.heap.size 16 rfl D _ HRD.out Try.underlying117 rfl HID.out ?_)
        | (refine wpList_load_mid rfl 140 (.tmp 3) rfl w.heap.size 0 rfl C _ HRC.out Try.underlying140 rfl HIC.out ?_))
      go_at_call 78
      refine (HCA.out _ (grown_trans HG.out (HWG.out _))).mono ?_
      rintro e w1 ⟨rfl, hg1⟩
      have hB1 := (hg1.block _ (lt_of_block HBN.out) (by simp)).trans HBN.out
      have HRL : Hid (w1.rangeAt wr.heap.size 0 L) := hid (range_of_blk hB1 rfl)
      have HG1 := hid (grown_trans (HWG.out _) hg1)
      have HBC2 : Hid (w1.heap[w.heap.size]? = some (.cells C.toArray 140 (0, 0))) := hid ((hg1.block _ (lt_of_block HBC1.out) (by simp)).trans HBC1.out)
      have how1 := HOWG.out _ (grown_alloc HG1.out (.cells L.toArray 119))
      have hsw1 : w.heap.size ≤ w1.heap.size := by have := HG1.out.size; omega
      clear hg1 hB1 HBN HBC1 HRG HRD HRC HCA
      cases ok with
      | true =>
        have HFI := hid (HFIN.out rfl)
        clear HFIN HSKIP
        go_wp2_with (first
          | (refine wpList_load_mid rfl 119 (.tmp 7) rfl wr.heap.size 0 rfl L _ HRL.out Try.underlying119 rfl HIL.out ?_)
          | (refine wpList_build_one rfl 86 119 (.tmp 19) rfl _ L rfl Try.underlying86 HIZ.out (by omega) (by omega) ?_)
          | (at_builtin; refine wpList_append_own _ rfl (.tmp 18) (.tmp 20) 86 rfl (w.heap.size) 119 i0 (.agg #[.int .i64 0, .int .i64 0, .int .i64 0, .int .i64 0, .int .i64 0, .int .i64 0, .int .i64 0, .int .i64 0, .int .i64 0, .int .i64 0, .int .i64 0, .int .i64 0, .int .i64 0, .int .i64 0, .int .i64 0, .int .i64 0, .bool false, .bool false, .bool false, .bool false, .int .i64 0, .int .i64 0, .int .i64 0, .int .i64 0]) 24 168 Try.underlying86 hi0 hz0 hz1 hz2 rfl (by decide) _ _ _ rfl how1 _ 1 1 L rfl (by omega) (fun j u hj => news_at1 hj) HON.out (by unfold maxLen; omega) (by omega) (by simp; omega) ?_))
        intro v' w3 hown3 hg3 _
        have HO3 := hid hown3
        have HG3 := hid hg3
        have HB3 : Hid (w3.heap[w.heap.size]? = some (.cells C.toArray 140 (0, 0))) := hid (by
          have h4 := (Below.heap_alloc w1 (.cells L.toArray 119) _ (lt_of_block HBC2.out)).trans HBC2.out
          exact (hg3.block _ (lt_of_block h4) (fun e => HNB.out e.symm)).trans h4)
        clear hown3 hg3
        go_wp2_with fail
        go_roundw
        case rel => exact ⟨k + 1, by omega, by go_num, HFI.out _ _ HO3.out, grown_own2 (grown_trans HG.out (grown_alloc HG1.out _)) HG3.out HLT.out, HB3.out⟩
        case measure => simp [intOf]; omega
      | false =>
        have HSK := hid (HSKIP.out rfl)
        clear HFIN HSKIP how1
        go_wp2_with fail
        go_roundw
        case rel => exact ⟨k + 1, by omega, by go_num, by rw [HSK.out, ← HNL.out, ← HXS.out]; exact HOWG.out _ HG1.out, grown_trans HG.out HG1.out, HBC2.out⟩
        case measure => simp [intOf]; omega
    · have hkl : k = l.length := by omega
      subst hkl
      rw [List.take_length] at HOW
      clear hg hown hbc
      go_wp2_with fail
      go_ret
      exact ⟨_, rfl, HOW.out, HG.out⟩

end Go.Proofs.Ythlhbjnkohinmab
