/- The statement Settled, walked. -/
import Derived.Test.YthlhbjnkohinmaaPart23
namespace Go.Proofs.Ythlhbjnkohinmaa
open Go.RowKit

theorem eq_empty {m : ByteArray} {l : List In} (h : m = toldT l) : (l = [] → m = ⟨#[]⟩) ∧ (l ≠ [] → m.toList.isEmpty = false) := by
  refine ⟨fun e => by rw [h, e]; rfl, fun e => ?_⟩
  cases hm : m.toList.isEmpty with
  | false => rfl
  | true =>
    exfalso
    rw [ByteArray.toList_eq, List.isEmpty_iff] at hm
    refine e (told_empty.mp (h.symm.trans ?_))
    apply ByteArray.ext
    apply Array.toList_inj.mp
    rw [hm]
    rfl

set_option maxRecDepth 20000 in
set_option maxHeartbeats 8000000 in
theorem settled_all (w : World) (s : ByteArray) (a1 : Option Addr) (l1 c1 : Nat) (ss fu : Int) (hs : s.size ≤ maxLen) (h1 : IsScript w a1 l1) (hl1 : l1 * 40 ≤ 140737488351232) (hfu : -9223372036854775808 ≤ fu ∧ fu ≤ 9223372036854775807) :
    Calls Try.prog 6 #[.string s, .slice a1 l1 c1, .int .i64 ss, .int .i64 fu] w fun e w' => e = .returned (.bool true) ∧ Below w.heap.size w w' := by
  have HSC : Hid (0 < l1 → ∃ sb off, a1 = some ⟨sb, off, none⟩ ∧ sb < w.heap.size ∧ ∀ t, t < l1 → ∃ k n c s, ActAt w sb (off + t * 4) k n c s) := hid (fun h0 => h1.resolve_left (by omega))
  have HPF := hid (fun W => kpick_any fu 20 W hfu.1 hfu.2 (by decide) (by decide))
  obtain ⟨n0, n1⟩ := kpickF_bd fu ((20 : Nat) : Int) (by decide)
  obtain ⟨pf, hpf⟩ : ∃ pf : Nat, kpickF fu ((20 : Nat) : Int) = (pf : Int) := ⟨(kpickF fu ((20 : Nat) : Int)).toNat, by omega⟩
  rw [hpf] at HPF n0 n1
  have HE := hid (engine_any s 999 w hs (by decide) (by decide))
  have HSS := hid hs
  clear h1 hfu hpf
  go_enter Try.func6, Try.ntmps6
  go_wp2_with fail
  go_at_call 9
  refine HE.out.mono ?_
  rintro e w1 (⟨rfl, hfr, _⟩ | ⟨x, r, rfl, hn, hroom, hsrc, hread, _⟩)
  · have HF := hid hfr
    clear hfr
    go_wp2_with fail
    go_ret
    exact ⟨rfl, HF.out.below (Nat.le_refl _) (by simp)⟩
  have HST := hid (ELoop.start hn (by omega))
  have HR : Hid (RulesP r.2.1 r.2.2) := hid (by rw [hsrc]; exact read_rulesP hread)
  have HRD : Hid (r.2.1 = s ∧ ReadAns s 0 0 (some r.2.2)) := hid ⟨hsrc, hread⟩
  clear hn hroom hsrc hread HE
  go_wp2_with fail
  go_loopw [11] (fun t wr => ∃ (k : Nat) (X : PEng) (F : Mks) (f : List Nat), k ≤ l1 ∧ t = .int .i64 k ∧ ELoop w.heap.size x w k wr X F f r) (fun t _ => l1 - (intOf t).toNat)
  case atStart =>
    obtain ⟨f, h⟩ := HST.out
    exact ⟨0, X0 r, _, f, Nat.zero_le _, rfl, h⟩
  case round =>
    obtain ⟨k, X, F, f, hk, rfl, hL⟩ := hrel
    have HL := hid hL
    clear hL HST
    by_cases hlt : k < l1
    · obtain ⟨sb, off, rfl, hsb, hscr⟩ := HSC.out (by omega)
      obtain ⟨kk, n, c, s', c0, c1', c2', c3', hs'⟩ := hscr k hlt
      clear hscr HSC
      have hBe := HL.out.below
      have d0 := (hBe.cell (p := ⟨sb, off + k * 4, none⟩) hsb).trans c0
      have d1 := (hBe.cell (p := ⟨sb, off + k * 4 + 1, none⟩) hsb).trans c1'
      have d2 := (hBe.cell (p := ⟨sb, off + k * 4 + 2, none⟩) hsb).trans c2'
      have d3 := (hBe.cell (p := ⟨sb, off + k * 4 + 3, none⟩) hsb).trans c3'
      have HC := hid (HL.out.acts (by omega) HR.out kk n c s' (Nat.lt_of_le_of_lt hs' (by decide)))
      clear c0 c1' c2' c3' hBe hs'
      go_wp2_with fail
      go_at_call 16
      refine HC.out.mono ?_
      rintro e w2 ⟨rfl, ht⟩
      have HT := hid ht
      clear ht HC d0 d1 d2 d3
      go_wp2_with fail
      go_roundw
      case rel =>
        obtain ⟨f', h'⟩ := HT.out
        exact ⟨k + 1, _, _, f', by omega, by go_num, h'⟩
      case measure => simp [intOf]; omega
    · have hkl : k = l1 := by omega
      subst hkl
      have HM := hid (HL.out.matches (by omega) HR.out ss)
      go_wp2_with fail
      go_at_call 18
      refine (HPF.out _).mono ?_
      rintro e w2 ⟨rfl, rfl⟩
      cases hf : findP X ss with
      | none =>
        have em : pmatE X F ss = (ByteArray.empty, 6) := by unfold pmatE; rw [hf]
        have ev : pviewF X ss = (ByteArray.empty, 6) := by unfold pviewF; rw [hf]
        have er : prunE X F ss (pf : Int) = ((0, 0, 6), X, F) := by unfold prunE; rw [hf]
        have EV := hid ev
        have ER := hid er
        rw [em] at HM
        clear hf em ev er
        go_wp2_with fail
        go_at_call 17
        refine HM.out.mono ?_
        rintro e w3 ⟨rfl, ht⟩
        obtain ⟨f3, hL3⟩ := ht
        have HV := hid (hL3.views (by omega) ss)
        rw [EV.out] at HV
        clear hL3 HM
        go_wp2_with fail
        go_at_call 14
        refine HV.out.mono ?_
        rintro e w4 ⟨rfl, ht⟩
        obtain ⟨f4, hL4⟩ := ht
        have HRN := hid (hL4.runs (by omega) HR.out ss (pf : Int))
        rw [ER.out] at HRN
        clear hL4 HV
        go_wp2_with fail
        go_at_call 19
        refine HRN.out.mono ?_
        rintro e w5 ⟨rfl, ht⟩
        have HB : Hid (Below w.heap.size w w5) := hid (by obtain ⟨_, h'⟩ := ht; exact h'.below)
        clear ht HRN
        go_wp2_with fail
        go_ret
        exact ⟨rfl, HB.out⟩
      | some q =>
        have hq8 := (findP_spec hf).1
        have hsrcX := HL.out.src
        have hrdX : ReadAns X.src.2.1 0 0 (some X.src.2.2) := by rw [hsrcX, HRD.out.1]; exact HRD.out.2
        have hRX : RulesP X.src.2.1 X.src.2.2 := by rw [hsrcX]; exact HR.out
        have hsX : X.src.2.1 = s := by rw [hsrcX]; exact HRD.out.1
        obtain ⟨p1, p2, p3, p4, p5, p6⟩ := settled_plain HL.out.fit F hf pf (by omega) hRX
        have hfit' := HL.out.fit.run F ss (pf : Int) hRX
        obtain ⟨m1, m2, m3⟩ := matL_ok HL.out.fit F hq8 hrdX
        obtain ⟨k1, k2, k3⟩ := matL_ok hfit' (prunE X F ss (pf : Int)).2.2 hq8 (by rw [p5]; exact hrdX)
        have HS1 : Hid (∀ W, Calls Try.prog 20 #[.string s, .string (toldT (matL X F q))] W fun e w' => e = .returned (.bool true) ∧ w' = W) := hid (fun W => by
          rw [hsX] at m1 m2
          exact sorted_any s (matL X F q) (wbR s X.src.2.2) W HSS.out m3 m1 m2)
        have HS2 : Hid (∀ W, Calls Try.prog 20 #[.string s, .string (toldT (matL (prunE X F ss (pf : Int)).2.1 (prunE X F ss (pf : Int)).2.2 q))] W fun e w' => e = .returned (.bool true) ∧ w' = W) := hid (fun W => by
          rw [p5, hsX] at k1 k2
          exact sorted_any s _ (wbR s X.src.2.2) W HSS.out k3 k1 k2)
        have EM : Hid (pmatE X F ss = (toldT (matL X F q), 0)) := hid (pmat_list hf)
        have EK : Hid (pmatE (prunE X F ss (pf : Int)).2.1 (prunE X F ss (pf : Int)).2.2 ss = (toldT (matL (prunE X F ss (pf : Int)).2.1 (prunE X F ss (pf : Int)).2.2 q), 0)) := hid (pmat_list p1)
        have EV : Hid ((pviewF X ss).2 = 0) := hid (by unfold pviewF; rw [hf])
        have EW : Hid ((pviewF (prunE X F ss (pf : Int)).2.1 ss).2 = 0) := hid (by unfold pviewF; rw [p1])
        obtain ⟨mt, hmt⟩ : ∃ mt, mt = toldT (matL X F q) := ⟨_, rfl⟩
        obtain ⟨kt, hkt⟩ : ∃ kt, kt = toldT (matL (prunE X F ss (pf : Int)).2.1 (prunE X F ss (pf : Int)).2.2 q) := ⟨_, rfl⟩
        obtain ⟨vt, hvt⟩ : ∃ vt, vt = (pviewF X ss).1 := ⟨_, rfl⟩
        obtain ⟨wt, hwt⟩ : ∃ wt, wt = (pviewF (prunE X F ss (pf : Int)).2.1 ss).1 := ⟨_, rfl⟩
        have hm0 := eq_empty hmt
        have hk0 := eq_empty hkt
        have hz : (prunE X F ss (pf : Int)).1.1 = 0 → kt = mt ∧ wt = vt := fun h => by
          obtain ⟨e1, e2⟩ := p4 h
          rw [hmt, hkt, hvt, hwt, e1, e2]
          exact ⟨rfl, rfl⟩
        rw [← hmt] at HS1 EM
        rw [← hkt] at HS2 EK
        rw [EM.out] at HM
        have HVT := hid hvt
        have HWT := hid hwt
        have HRN0 : Hid (∀ (f4 : List Nat) (w4 : World), ELoop w.heap.size x w k w4 X F f4 r → Calls Try.prog 19 #[.pointer (some ⟨x, 0, none⟩), .int .i64 ss, .int .i64 (pf : Int)] w4 fun e w' => e = .returned (.tuple #[.int .i64 (prunE X F ss (pf : Int)).1.1, .int .i64 (prunE X F ss (pf : Int)).1.2.1, .int .i64 (prunE X F ss (pf : Int)).1.2.2]) ∧ ENext w.heap.size x w (k + 1) (prunE X F ss (pf : Int)).2.1 (prunE X F ss (pf : Int)).2.2 r w') := hid (fun f4 w4 h4 => h4.runs (by omega) HR.out ss (pf : Int))
        rw [p2] at HRN0
        have P3 := hid p3
        have P6 := hid p6
        have HZ := hid hz
        have HM0 := hid hm0
        have HK0 := hid hk0
        generalize matL X F q = ML at HM0 P6
        generalize hPR : prunE X F ss (pf : Int) = pr at HRN0 P3 P6 HZ HK0 EK EW HWT
        clear hmt hkt hvt hwt hm0 hk0 hz m1 m2 m3 k1 k2 k3 p1 p2 p3 p4 p5 p6 hrdX hRX hsX hsrcX hfit' hf hq8 hPR HL
        obtain ⟨⟨cn, wy, er⟩, X', F'⟩ := pr
        simp only at HRN0 P3 P6 HZ HK0 EK EW HWT
        generalize matL X' F' q = KL at HK0 P6
        have hc0 := P3.out.1
        have hc1 := P3.out.2
        go_wp2_with fail
        go_at_call 17
        refine HM.out.mono ?_
        rintro e w3 ⟨rfl, ht⟩
        obtain ⟨f3, hL3⟩ := ht
        have HV := hid (hL3.views (by omega) ss)
        rw [EV.out, ← HVT.out] at HV
        clear hL3 HM
        go_wp2_with fail
        go_at_call 14
        refine HV.out.mono ?_
        rintro e w4 ⟨rfl, ht⟩
        obtain ⟨f4, hL4⟩ := ht
        have HRN := hid (HRN0.out f4 w4 hL4)
        clear hL4 HV HRN0
        go_wp2_with fail
        go_at_call 19
        refine HRN.out.mono ?_
        rintro e w5 ⟨rfl, ht⟩
        obtain ⟨f5, hL5⟩ := ht
        have HM2 := hid (hL5.matches (by omega) HR.out ss)
        rw [EK.out] at HM2
        clear hL5 HRN
        go_wp2_with fail
        go_at_call 17
        refine HM2.out.mono ?_
        rintro e w6 ⟨rfl, ht⟩
        obtain ⟨f6, hL6⟩ := ht
        have HV2 := hid (hL6.views (by omega) ss)
        rw [EW.out, ← HWT.out] at HV2
        clear hL6 HM2
        go_wp2_with fail
        go_at_call 14
        refine HV2.out.mono ?_
        rintro e w7 ⟨rfl, ht⟩
        have HB : Hid (Below w.heap.size w w7) := hid (by obtain ⟨_, h'⟩ := ht; exact h'.below)
        clear ht HV2
        by_cases hcz : cn = 0
        · obtain ⟨ek, ew⟩ := HZ.out hcz
          subst hcz
          subst ek
          subst ew
          rcases P6.out with ⟨y1, y2⟩ | ⟨y1, y2, y3⟩ | ⟨y1, y2, y3⟩ | ⟨y1, y2, y3⟩
          · have ee := HK0.out.1 y2
            subst ee
            subst y1
            clear P3 P6 HZ HM0 HK0 EM EK EV EW HVT HWT
            go_wp2_with fail
            go_at_call 20
            refine (HS1.out _).mono ?_
            rintro e w8 ⟨rfl, rfl⟩
            go_wp2_with fail
            go_at_call 20
            refine (HS2.out _).mono ?_
            rintro e w9 ⟨rfl, rfl⟩
            go_wp2_with fail
            go_ret
            exact ⟨rfl, HB.out⟩
          · have qk := HK0.out.2 y3
            subst y1
            have qp : ((0 : Int) == (pf : Int)) = true := by
              simp only [beq_iff_eq]
              omega
            clear y2
            clear P3 P6 HZ HM0 HK0 EM EK EV EW HVT HWT
            go_wp2_with fail
            go_at_call 20
            refine (HS1.out _).mono ?_
            rintro e w8 ⟨rfl, rfl⟩
            go_wp2_with fail
            go_at_call 20
            refine (HS2.out _).mono ?_
            rintro e w9 ⟨rfl, rfl⟩
            go_wp2_with fail
            go_ret
            exact ⟨rfl, HB.out⟩
          · omega
          · have qk := HK0.out.2 y3
            subst y1
            clear P3 P6 HZ HM0 HK0 EM EK EV EW HVT HWT
            go_wp2_with fail
            go_at_call 20
            refine (HS1.out _).mono ?_
            rintro e w8 ⟨rfl, rfl⟩
            go_wp2_with fail
            go_at_call 20
            refine (HS2.out _).mono ?_
            rintro e w9 ⟨rfl, rfl⟩
            go_wp2_with fail
            go_ret
            exact ⟨rfl, HB.out⟩
        · have qc : (cn == 0) = false := by simpa using hcz
          have hc2 : cn > 0 := by omega
          rcases P6.out with ⟨y1, y2⟩ | ⟨y1, y2, y3⟩ | ⟨y1, y2, y3⟩ | ⟨y1, y2, y3⟩
          · have ee := HK0.out.1 y2
            subst ee
            subst y1
            clear P3 P6 HZ HM0 HK0 EM EK EV EW HVT HWT hcz
            go_wp2_with fail
            go_at_call 20
            refine (HS1.out _).mono ?_
            rintro e w8 ⟨rfl, rfl⟩
            go_wp2_with fail
            go_at_call 20
            refine (HS2.out _).mono ?_
            rintro e w9 ⟨rfl, rfl⟩
            go_wp2_with fail
            go_ret
            exact ⟨rfl, HB.out⟩
          · have qk := HK0.out.2 y3
            subst y1
            subst y2
            clear P3 P6 HZ HM0 HK0 EM EK EV EW HVT HWT hcz
            go_wp2_with fail
            go_at_call 20
            refine (HS1.out _).mono ?_
            rintro e w8 ⟨rfl, rfl⟩
            go_wp2_with fail
            go_at_call 20
            refine (HS2.out _).mono ?_
            rintro e w9 ⟨rfl, rfl⟩
            go_wp2_with fail
            go_ret
            exact ⟨rfl, HB.out⟩
          · have qm := HM0.out.2 y3
            subst y1
            clear P3 P6 HZ HM0 HK0 EM EK EV EW HVT HWT hcz
            go_wp2_with fail
            go_at_call 20
            refine (HS1.out _).mono ?_
            rintro e w8 ⟨rfl, rfl⟩
            go_wp2_with fail
            go_at_call 20
            refine (HS2.out _).mono ?_
            rintro e w9 ⟨rfl, rfl⟩
            go_wp2_with fail
            go_ret
            exact ⟨rfl, HB.out⟩
          · have qk := HK0.out.2 y3
            subst y1
            clear P3 P6 HZ HM0 HK0 EM EK EV EW HVT HWT hcz
            go_wp2_with fail
            go_at_call 20
            refine (HS1.out _).mono ?_
            rintro e w8 ⟨rfl, rfl⟩
            go_wp2_with fail
            go_at_call 20
            refine (HS2.out _).mono ?_
            rintro e w9 ⟨rfl, rfl⟩
            go_wp2_with fail
            go_ret
            exact ⟨rfl, HB.out⟩

end Go.Proofs.Ythlhbjnkohinmaa
