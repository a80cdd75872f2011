/- The document's engine: Commit, where no sweep is needed. -/
import Derived.Test.YthlhbjnkohinmaaGreatRefComA
namespace Go.Proofs.YthlhbjnkohinmaaGreat
open Go.RowKit

/-- Is one of the first i writes in conflict? -/
def noClash (E : Eng) (S : Ses) (l : List Wr) (i : Nat) : Prop := ∀ j (h : j < l.length), j < i → ¬ (atF E.com l[j].1 E.com.length).2 > S.snap

set_option maxRecDepth 20000 in
set_option maxHeartbeats 4000000 in
theorem rcommit_any {Q : Value → Asn} (hQ : ∀ v, Framed (Q v)) (hQw : ∀ v, Within (Q v)) {y : Nat} {E : Eng} {w : World} {f : List Nat} (n : Int) (hE : EngA Q y E w f) (hn : f.Nodup) (hW : EngWF E) (hroom : E.room = 999) (hkept : E.kept.length + 60 ≤ 999) (hcl : (E.com.length + 1) * 24 ≤ 140737488355328) :
    Calls Tryz.prog 30 #[.pointer (some ⟨y, 0, none⟩), .int .i64 n] w fun e w' => e = .returned (.tuple #[.int .i64 (rcommitF E n).1.1, .int .i64 (rcommitF E n).1.2]) ∧ EngTo Q y (rcommitF E n).2 f w w' := by
  have hE0 := hE
  obtain ⟨rv, cv, kv, ov, cs, ps, f1, f2, ⟨hb, rfl⟩, ⟨f3, f4, _, ⟨f5, f6, ⟨hcr, _⟩, ⟨f7, f8, hcom, ⟨f9, f10, ⟨hkr, _⟩, ⟨f11, f12, ⟨hor, _⟩, hses, _⟩, _⟩, _⟩, _⟩, _⟩, _⟩ := hE0
  obtain ⟨ac, mc, cc, rfl⟩ := own_slice hcr
  obtain ⟨ak, mk, ck, rfl⟩ := own_slice hkr
  obtain ⟨ao, mo, co, rfl⟩ := own_slice hor
  have emc := own_len hcr
  have emk := own_len hkr
  subst emc
  subst emk
  have c1 : w.cell? ⟨y, 1, none⟩ = some (.int .i64 999) := by rw [← hroom, cell_of_row _ _ _ _ _ _ hb]; rfl
  have c2 : w.cell? ⟨y, 2, none⟩ = some (.slice ac E.com.length cc) := by rw [cell_of_row _ _ _ _ _ _ hb]; rfl
  have c3 : w.cell? ⟨y, 3, none⟩ = some (.slice ak E.kept.length ck) := by rw [cell_of_row _ _ _ _ _ _ hb]; rfl
  have d4 : w.cell? ⟨y, 4, none⟩ = some (.slice ao mo co) := by rw [cell_of_row _ _ _ _ _ _ hb]; rfl
  have HF := hid (find_any y E.opn ps f12 n ao mo co w d4 hor hses (by have := hW.opnLen; omega))
  have HSES := hid hses
  have HCOM := hid hcom
  have HCR := hid hcr
  have hyl := lt_of_block hb
  have hcl2 := hW.comLen
  obtain ⟨r1, hr1⟩ : ∃ r1, r1 = (rcommitF E n).1.1 := ⟨_, rfl⟩
  obtain ⟨r2, hr2⟩ : ∃ r2, r2 = (rcommitF E n).1.2 := ⟨_, rfl⟩
  obtain ⟨EE, hEE⟩ : ∃ EE, EE = (rcommitF E n).2 := ⟨_, rfl⟩
  rw [← hr1, ← hr2, ← hEE]
  have HRES : Hid ((r1, r2) = (rcommitF E n).1 ∧ EE = (rcommitF E n).2) := hid ⟨by rw [hr1, hr2], hEE⟩
  have HE := hid hE
  have HEND := hid (fun W (hF : Fr [] w W) => rend_any hQ hQw n (EngA.framed hQ _ _ hE hF (by simp)) hn hW.opnLen)
  clear hr1 hr2 hEE hb hses hcom hcr hkr d4 hor hE
  go_enter Tryz.func30, Tryz.ntmps30
  go_wp2_with fail
  go_at_call 44
  refine HF.out.mono ?_
  rintro e w' ⟨⟨u, rfl, hans⟩, rfl⟩
  rcases hans with ⟨k, h1, h2, hn1, hn2, rfl⟩ | ⟨hno, rfl⟩
  · obtain ⟨fp, hse, _⟩ := EachA.get HSES.out k h2 h1
    have hS : E.opn[k] ∈ E.opn := List.getElem_mem h1
    have HNW := hid (rnewest_any E.opn[k] ps[k] fp _ hse (hW.wrLen _ hS))
    have hlen60 : (newest E.opn[k].wr).length ≤ 60 := newestN_le _ 60
    have hRC : rcommitF E n = if rclash E E.opn[k] then ((0, 10), rendF E n) else if (newest E.opn[k].wr).isEmpty then ((0, 0), rendF E n) else (((E.com.length : Int) + 1, 0), rendF (E.commit (newest E.opn[k].wr)) n) := by unfold rcommitF; rw [findS_some h1 hn1 hn2]
    have HRC := hid hRC
    have hRCL : ∀ i, noClash E E.opn[k] (newest E.opn[k].wr) i → (newest E.opn[k].wr).length ≤ i → rclash E E.opn[k] = false := by
      intro i hi hle
      unfold rclash
      rw [List.any_eq_false]
      intro p hp
      obtain ⟨j, hj, rfl⟩ := List.mem_iff_getElem.mp hp
      simpa using hi j hj (by omega)
    have hRCT : ∀ j (h : j < (newest E.opn[k].wr).length), (atF E.com (newest E.opn[k].wr)[j].1 E.com.length).2 > E.opn[k].snap → rclash E E.opn[k] = true := by
      intro j hj hgt
      unfold rclash
      rw [List.any_eq_true]
      exact ⟨_, List.getElem_mem hj, by simpa using hgt⟩
    have HRCL := hid hRCL
    have HRCT := hid hRCT
    obtain ⟨g1, _, _, _, _, _, _, hp, hb1, _⟩ := hse.open
    have s1 : w'.cell? ⟨g1, 1, none⟩ = some (.int .i64 E.opn[k].snap) := by rw [cell_of_row _ _ _ _ _ _ hb1]; rfl
    rw [hp] at HNW ⊢
    obtain ⟨sn, hsn⟩ : ∃ sn, sn = E.opn[k].snap := ⟨_, rfl⟩
    obtain ⟨l, hl⟩ : ∃ l, l = newest E.opn[k].wr := ⟨_, rfl⟩
    have HNC : Hid (∀ i, noClash E E.opn[k] l i ↔ ∀ j (h : j < l.length), j < i → ¬ (atF E.com l[j].1 E.com.length).2 > sn) := hid (fun i => by rw [hsn]; rfl)
    rw [← hl] at HNW hlen60 HRC HRCL HRCT
    rw [← hsn] at s1 HRCT
    clear hRC hRCL hRCT hse hb1 hp HF hn1 hn2 hsn hl
    go_wp2_with fail
    go_at_call 58
    refine HNW.out.mono ?_
    rintro e w1 ⟨v, rfl, hown, hg1⟩
    obtain ⟨av, mv, cv', rfl⟩ := own_slice hown
    have emv := own_len hown
    subst emv
    have HFR1 := hid (fr_none hg1)
    have HOWN := hid hown
    have HAT : Hid (∀ W, Fr [] w' W → ∀ c, Calls Tryz.prog 59 #[.pointer (some ⟨y, 0, none⟩), .string c, .int .i64 E.com.length] W fun e w'' => e = .returned (.tuple #[.int .i64 (atF E.com c E.com.length).1, .int .i64 (atF E.com c E.com.length).2]) ∧ w'' = W) := hid (fun W hF c =>
      at_any y E.com cs f7 c E.com.length ac _ cc W (cell_same hF c2) (RowA.framed _ _ _ _ _ ⟨HCR.out, rfl⟩ hF (by simp)).1 (EachA.framed ComA.framed _ _ HCOM.out hF (by simp)) (Nat.le_refl _) (by omega) (fun l hl => by have := hW.comEach l hl; omega))
    clear hown hg1 HNW
    go_wp2_with fail
    go_loopw [8] (fun t wr => ∃ i : Nat, i ≤ l.length ∧ t = .int .i64 i ∧ Fr [] w1 wr ∧ noClash E E.opn[k] l i) (fun t _ => l.length - (intOf t).toNat)
    case atStart => exact ⟨0, Nat.zero_le _, rfl, Fr.refl _ _, fun j _ h => by omega⟩
    case round =>
      obtain ⟨i, hi, rfl, hfw, hnc⟩ := hrel
      have HFW := hid hfw
      have HNCi := hid hnc
      have HF0 := hid (HFR1.out.trans hfw)
      clear hfw hnc
      by_cases hlt : i < l.length
      · obtain ⟨gv, rfl, _, hgb, hgl, hcell⟩ := own_cell HOWN.out (by omega)
        have x0 := cell_same HFW.out (hcell _ _ (wrCells_at l i hlt).1)
        have x2 := cell_same HF0.out c2
        have x1 := cell_same HF0.out s1
        have HATi := hid (fun W (hF : Fr [] w' W) => HAT.out W hF l[i].1)
        have hbd := atF_bd E.com l[i].1 E.com.length
        obtain ⟨ct, hct⟩ : ∃ ct, ct = l[i].1 := ⟨_, rfl⟩
        obtain ⟨v0, hv0⟩ : ∃ v0, v0 = (atF E.com l[i].1 E.com.length).1 := ⟨_, rfl⟩
        obtain ⟨t0, ht0⟩ : ∃ t0, t0 = (atF E.com l[i].1 E.com.length).2 := ⟨_, rfl⟩
        rw [← ht0] at hbd
        rw [← hv0, ← ht0] at HATi
        rw [← hct] at x0 HATi
        have HT0 := hid ht0
        clear hcell hct hv0 ht0
        have hi0 : (0 : Int) ≤ (i : Int) := by omega
        have hi1 : (i : Int) < (l.length : Int) := by omega
        go_wp2_with fail
        go_region_held3 (fun W => W.cell? ⟨gv, i * 2, none⟩ = some (.string ct) ∧ W.cell? ⟨y, 2, none⟩ = some (.slice ac E.com.length cc)) (go_keep) (first
          | (go_at_call 59
             refine (HATi.out _ HF0.out.drew0).mono ?_
             rintro e w2 ⟨rfl, rfl⟩))
        by_cases hgt : t0 > sn
        · have HCL : Hid (rclash E E.opn[k] = true) := hid (HRCT.out i hlt (by rw [← HT0.out]; exact hgt))
          have HRE : Hid ((r1, r2) = ((0 : Int), (10 : Int)) ∧ EE = rendF E n) := hid (by rw [HRES.out.1, HRES.out.2, HRC.out, HCL.out]; exact ⟨rfl, rfl⟩)
          go_wp2_with fail
          go_at_call 52
          refine (HEND.out _ (by exact HF0.out.drew0)).mono ?_
          rintro e w3 ⟨rfl, ht3⟩
          have HT3 := hid ht3
          clear ht3
          go_wp2_with fail
          go_ret2
          obtain ⟨e1, e2⟩ := HRE.out
          cases e1
          refine ⟨rfl, ?_⟩
          rw [e2]
          exact HT3.out.back (by exact HF0.out.drew0)
        · have HN' : Hid (noClash E E.opn[k] l (i + 1)) := hid ((HNC.out _).mpr (by
            intro j hj hji
            by_cases e : j = i
            · subst e; rw [← HT0.out]; omega
            · exact (HNC.out i).mp HNCi.out j hj (by omega)))
          go_wp2_with fail
          go_roundw
          case rel => exact ⟨i + 1, by omega, by go_num, HFW.out.drew0, HN'.out⟩
          case measure => simp [intOf]; omega
      · have HCL : Hid (rclash E E.opn[k] = false) := hid (HRCL.out i HNCi.out (by omega))
        have x1 := cell_same HF0.out c1
        have x3 := cell_same HF0.out c3
        by_cases hl0 : l.length = 0
        · have HRE : Hid ((r1, r2) = ((0 : Int), (0 : Int)) ∧ EE = rendF E n) := hid (by
            have e : l = [] := List.eq_nil_of_length_eq_zero hl0
            rw [HRES.out.1, HRES.out.2, HRC.out, HCL.out, e]
            exact ⟨rfl, rfl⟩)
          have q : ((l.length : Int) == 0) = true := by simp [hl0]
          go_wp2_with fail
          go_at_call 52
          refine (HEND.out _ HF0.out).mono ?_
          rintro e w3 ⟨rfl, ht3⟩
          have HT3 := hid ht3
          clear ht3
          go_wp2_with fail
          go_ret2
          obtain ⟨e1, e2⟩ := HRE.out
          cases e1
          refine ⟨rfl, ?_⟩
          rw [e2]
          exact HT3.out.back HF0.out
        · have q : ((l.length : Int) == 0) = false := by simp; intro e; rw [e] at hl0; simp at hl0
          have HRE : Hid ((r1, r2) = ((E.com.length : Int) + 1, (0 : Int)) ∧ EE = rendF (E.commit l) n) := hid (by
            have e : l.isEmpty = false := by cases l with | nil => simp at hl0 | cons a b => rfl
            rw [HRES.out.1, HRES.out.2, HRC.out, HCL.out, e]
            exact ⟨rfl, rfl⟩)
          have x2 := cell_same HF0.out c2
          obtain ⟨i0, hi0, hz0, hz1, hz2⟩ := info_parts Tryz.info97
          have hfl : ∀ x ∈ f, x < w'.heap.size := EngA.within0 hQw y E HE.out
          obtain ⟨rv2, cvv, kvv, ovv, cs2, yb, ycr, _, yin, ygo⟩ := EngA.comGrow hQ hQw (EngA.framed hQ _ _ HE.out HF0.out (by simp)) hn
          have ecv : cvv = .slice ac E.com.length cc := by
            have e := cell_of_row _ _ 2 _ _ _ yb
            rw [x2] at e
            simpa using e.symm
          subst ecv
          have hvrow : RowA 107 2 (.slice av l.length cv') l.length (wrCells l) wr (Value.slice av l.length cv').ownBlock.toList := ⟨own_mono (RowA.framed _ _ _ _ _ ⟨own_mono HOWN.out (Nat.zero_le _), rfl⟩ HFW.out (by simp)).1 (Nat.zero_le _), rfl⟩
          have hvb : ∀ x ∈ (Value.slice av l.length cv').ownBlock.toList, w'.heap.size ≤ x := by
            intro x hx
            cases hb : (Value.slice av l.length cv').ownBlock with
            | none => rw [hb] at hx; cases hx
            | some z => rw [hb] at hx; simp at hx; subst hx; exact (HOWN.out.lt _ hb).1
          have HGO := hid (fun g3 c' w3 w4 => ygo l (.slice av l.length cv') _ g3 c' w3 w4 hvrow (fun x hx hf => by have := hvb x hx; have := hfl x hf; omega) (by cases (Value.slice av l.length cv').ownBlock <;> simp))
          have HVR := hid hvrow
          have HVB := hid hvb
          have HYIN := hid yin
          have hyn : (Value.slice ac E.com.length cc).ownBlock ≠ some y := own_ne_ty ycr yb (by decide)
          have HYB := hid yb
          have hylr := lt_of_block yb
          have HFL := hid hfl
          clear ygo hvrow hvb yin yb hfl
          go_wp2_with fail
          go_quiet ((fail))
          go_wp2_with fail
          go_quiet ((fail))
          go_wp2_with (at_builtin; refine wpList_append_lies _ rfl (.tmp 87) (.tmp 89) 36 rfl 0 97 i0 (.slice none 0 0) 1 24 Tryz.underlying36 hi0 hz0 hz1 hz2 rfl (by decide) (.slice ac E.com.length cc) E.com.length cs2 rfl (own_heap (ycr.alloc _) rfl) ⟨wr.heap.size, 0, none⟩ 1 1 [.slice av l.length cv'] rfl rfl (fun j u hj => news_at1 hj) (fun u hu => by simp at hu; subst hu; rfl) (by decide) (by unfold maxLen; omega) hcl (Nat.zero_le _) (wr.heap.size + 1) (by simp) (fun g3 c' w3 hown3 hg3 hva hvl => ?_)
                       have hb3 : w3.heap[y]? = some (.cells #[rv2, .int .i64 E.room, .slice ac E.com.length cc, kvv, ovv, .int .i64 E.opened] 40 (0, 0)) := (hg3.block y (by simp; omega) (fun e => hyn e.symm)).trans ((Below.heap_alloc _ _ _ (by simpa using hylr)).trans HYB.out)
                       have d3 : w3.cell? ⟨y, 2, none⟩ = some (.slice ac E.com.length cc) := by simp [World.cell?, hb3]
                       have z3 : w3.frozen? ⟨y, 2, none⟩ = false := by simp [World.frozen?, hb3])
          have hfr3 : Fr (Value.slice ac E.com.length cc).ownBlock.toList wr w3 := ((((Fr.refl [] wr).drewN _).alloc _).mono (fun k hk => by cases hk)).trans (Fr.grown hg3)
          have hfr4 : Fr (y :: (Value.slice ac E.com.length cc).ownBlock.toList) wr (w3.setCell ⟨y, 2, none⟩ (.slice (some ⟨g3, 0, none⟩) (E.com.length + 1) c')) := (hfr3.mono (fun k hk => .inl (by simp at hk ⊢; exact .inr hk))).set (.inl (by simp)) _
          obtain ⟨f4, hE4, hn4, hs4⟩ := HGO.out g3 c' w3 _ (by rcases hva with h | h; · exact .inl h
                                                               · exact .inr (by omega)) hown3 hfr3 rfl hfr4
          have hv4 := (RowA.framed _ _ _ _ _ HVR.out hfr4 (fun x hx e => by
            have h1 := HVB.out x hx
            have h2 := HFL.out x (HYIN.out x e)
            omega)).1
          have HST : Hid (EngA Q y { E with com := E.com ++ [l] } (w3.setCell ⟨y, 2, none⟩ (.slice (some ⟨g3, 0, none⟩) (E.com.length + 1) c')) f4 ∧ f4.Nodup ∧ (∀ x ∈ f4, x ∈ f ∨ w'.heap.size ≤ x) ∧ Fr f w' (w3.setCell ⟨y, 2, none⟩ (.slice (some ⟨g3, 0, none⟩) (E.com.length + 1) c')) ∧ (w3.setCell ⟨y, 2, none⟩ (.slice (some ⟨g3, 0, none⟩) (E.com.length + 1) c')).ownsRow 0 107 2 (.slice av l.length cv') l.length (wrCells l)) := hid (by
            refine ⟨hE4, hn4, fun x hx => ?_, ((HF0.out).mono (fun k hk => by cases hk)).trans (hfr4.mono (fun k hk => .inl (HYIN.out k hk))), hv4⟩
            rcases hs4 x hx with h | h | h
            · exact .inl h
            · exact .inr (HVB.out x h)
            · exact .inr (Nat.le_trans HF0.out.size h))
          have HST' : Hid (Laying Q y E l (.slice av l.length cv') f w' 0 (w3.setCell ⟨y, 2, none⟩ (.slice (some ⟨g3, 0, none⟩) (E.com.length + 1) c')) f4) := hid (by unfold Laying; rw [E2_zero]; exact HST.out)
          have HROOM := hid hroom
          obtain ⟨j0, hj0, hjz0, hjz1, hjz2⟩ := info_parts Tryz.info124
          generalize w3.setCell ⟨y, 2, none⟩ (.slice (some ⟨g3, 0, none⟩) (E.com.length + 1) c') = w4 at HST' ⊢
          clear hfr3 hfr4 hE4 hs4 hv4 hown3 hg3 hb3 d3 z3 hva HGO HST hn4 x1 x2 x3 HVR HVB HYIN HYB HFL hyn hylr ycr hvl HCL HNCi HFW HF0
          go_loopw [11] (fun t wr2 => ∃ (i : Nat) (f5 : List Nat), i ≤ l.length ∧ t = .int .i64 i ∧ Laying Q y E l (.slice av l.length cv') f w' i wr2 f5) (fun t _ => l.length - (intOf t).toNat)
          case atStart => exact ⟨0, f4, Nat.zero_le _, rfl, HST'.out⟩
          case round =>
            obtain ⟨i2, f5, hi2, rfl, hlay⟩ := hrel
            have HLAY := hid hlay
            by_cases hlt2 : i2 < l.length
            · obtain ⟨rv3, ac3, cc3, ak3, ck3, ov3, KC, yb3, ykr3, hnext⟩ := hlay.next hQ hQw hlt2
              have y2 : wr.cell? ⟨y, 2, none⟩ = some (.slice ac3 (E.com.length + 1) cc3) := by rw [cell_of_row _ _ _ _ _ _ yb3]; rfl
              have y3 : wr.cell? ⟨y, 3, none⟩ = some (.slice ak3 (E.kept.length + i2) ck3) := by rw [cell_of_row _ _ _ _ _ _ yb3]; rfl
              obtain ⟨gv, rfl, _, hgb2, hgl2, hcell2⟩ := own_cell hlay.2.2.2.2 (by omega)
              have x4 := hcell2 _ _ (wrCells_at l i2 hlt2).1
              have x5 := hcell2 _ _ (wrCells_at l i2 hlt2).2
              have hyn3 : (Value.slice ak3 (E.kept.length + i2) ck3).ownBlock ≠ some y := own_ne_ty ykr3 yb3 (by decide)
              have hyl3 := lt_of_block yb3
              have hylz : y ≠ wr.heap.size := by omega
              have hgvz : gv ≠ wr.heap.size := by omega
              have HYB3 := hid yb3
              have HNX := hid hnext
              obtain ⟨p0, hp0⟩ : ∃ p0, p0 = l[i2] := ⟨_, rfl⟩
              rw [← hp0] at x4 x5 HNX
              obtain ⟨KL, hKL⟩ : ∃ KL, KL = E.kept.length + i2 := ⟨_, rfl⟩
              have hkl : KL ≤ 1100 := by omega
              rw [← hKL] at y3 ykr3 hyn3 HYB3 HNX
              obtain ⟨CL, hCL⟩ : ∃ CL, CL = E.com.length := ⟨_, rfl⟩
              have hcl3 : CL ≤ 9223372036854775806 := by omega
              rw [← hCL] at y2 HYB3 HNX
              have HHI := hid hi2
              have hi20 : (0 : Int) ≤ (i2 : Int) := by omega
              have hi21 : (i2 : Int) < (l.length : Int) := by omega
              have hle : l.length ≤ 60 := hlen60
              clear hlay hcell2 yb3 hnext hp0 hKL hCL hlen60 c1 c2 c3 s1 hcl2 hcl hkept hroom hyl q hl0 hi hi2 hlt hW
              go_wp2_with fail
              go_region_law (
                refine step_append_lies _ rfl (.tmp 103) (.tmp 114) 37 rfl 0 124 j0 (.agg #[.int .i64 0, .string ByteArray.empty, .int .i64 0]) 3 32 Tryz.underlying37 hj0 hjz0 hjz1 hjz2 rfl (by decide) (.slice ak3 KL ck3) KL KC (by simp [Act.eval]) (own_heap (ykr3.alloc _) rfl) ⟨wr.heap.size, 0, none⟩ 1 1 [.int .i64 ((CL : Int) + 1), .string p0.1, .int .i64 p0.2] (by simp [Act.eval]) rfl (fun j u hj => news_at1 hj) (fun u hu => by simp at hu; rcases hu with h | h | h <;> subst h <;> rfl) (by decide) (by unfold maxLen; omega) (by omega) (Nat.zero_le _) _ rfl (fun g5 c5 w5 hown5 hg5 hva5 hvl5 => ?_)
                have hb5 : w5.heap[y]? = some (.cells #[rv3, .int .i64 E.room, .slice ac3 (CL + 1) cc3, .slice ak3 KL ck3, ov3, .int .i64 E.opened] 40 (0, 0)) := (hg5.block y (by simp; omega) (fun e => hyn3 e.symm)).trans ((Below.heap_alloc _ _ _ (by simpa using hyl3)).trans HYB3.out)
                have d5 : w5.cell? ⟨y, 3, none⟩ = some (.slice ak3 KL ck3) := by simp [World.cell?, hb5]
                have z5 : w5.frozen? ⟨y, 3, none⟩ = false := by simp [World.frozen?, hb5])
              all_goals
                have HFIN := hid (HNX.out g5 c5 w5 (by
                  rcases hva5 with h | h
                  · exact .inl h
                  · exact .inr (by rw [h]; simp)) hown5 (((((Fr.refl [] wr).drewN 1).alloc _).mono (fun k hk => by cases hk)).trans (Fr.grown hg5)))
                clear hown5 hg5 hb5 d5 z5 hva5 x4 x5 y2 y3 HNX HYB3 ykr3
                go_wp2_with fail
                go_roundw
                case rel =>
                  obtain ⟨f6, h6⟩ := HFIN.out
                  exact ⟨i2 + 1, f6, by omega, by go_num, h6⟩
                case measure => simp [intOf]; omega
            · have hend := rend_any hQ hQw n hlay.1 hlay.2.1 (by simpa [E2] using hW.opnLen)
              rw [E2_all E l (by omega)] at hend
              have HEND2 := hid hend
              clear hlay hend
              go_wp2_with fail
              go_at_call 52
              refine HEND2.out.mono ?_
              rintro e w7 ⟨rfl, ht7⟩
              have HT7 := hid ht7
              obtain ⟨f7', hE7, _, _, _⟩ := ht7
              obtain ⟨rv7, cv7, kv7, ov7, cs7, ps7, _, _, ⟨hb7, _⟩, ⟨_, _, _, ⟨_, _, ⟨hcr7, _⟩, _⟩, _⟩, _⟩ := hE7
              obtain ⟨ac7, mc7, cc7, rfl⟩ := own_slice hcr7
              have em7 : mc7 = E.com.length + 1 := by have := own_len hcr7; simpa [rendF, Eng.commit] using this
              subst em7
              have y7 : w7.cell? ⟨y, 2, none⟩ = some (.slice ac7 (E.com.length + 1) cc7) := by rw [cell_of_row _ _ _ _ _ _ hb7]; rfl
              clear hb7 hcr7
              go_wp2_with fail
              go_ret2
              obtain ⟨e1, e2⟩ := HRE.out
              cases e1
              refine ⟨rfl, ?_⟩
              rw [e2]
              obtain ⟨f8, a, nn, s, r⟩ := HT7.out
              obtain ⟨_, _, hs5, hfr5, _⟩ := HLAY.out
              refine ⟨f8, a, nn, fun x hx => ?_, hfr5.then r hs5⟩
              rcases s x hx with h | h
              · exact hs5 x h
              · exact .inr (Nat.le_trans hfr5.size h)
  · have HRE : Hid ((r1, r2) = ((0 : Int), (6 : Int)) ∧ EE = E) := hid (by rw [HRES.out.1, HRES.out.2]; unfold rcommitF; rw [findS_none hno]; exact ⟨rfl, rfl⟩)
    clear hno HF
    go_wp2
    go_ret2
    obtain ⟨e1, e2⟩ := HRE.out
    cases e1
    rw [e2]
    exact ⟨rfl, EngTo.same HE.out hn⟩

end Go.Proofs.YthlhbjnkohinmaaGreat
