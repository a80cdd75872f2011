/- The statement Aborted, walked. -/
import Derived.Test.YthlhbjnkohinmaaPartA1
import Derived.Deep.CutRange
namespace Go.Proofs.Ythlhbjnkohinmaa
open Go.RowKit

set_option maxRecDepth 20000 in
set_option maxHeartbeats 8000000 in
theorem aborted_all (w : World) (s : ByteArray) (a1 a2 : Option Addr) (l1 c1 l2 c2 : Nat) (hs : s.size ≤ maxLen) (h1 : IsScript w a1 l1) (hl1 : l1 * 40 ≤ 140737488351232) (h2 : IsScript w a2 l2) (hl2 : l2 * 40 ≤ 140737488351232) :
    Calls Try.prog 7 #[.string s, .slice a1 l1 c1, .slice a2 l2 c2] w fun e w' => e = .returned (.bool true) ∧ Below w.heap.size w w' := by
  have HS1 : Hid (0 < l1 → ∃ sb off, a1 = some ⟨sb, off, none⟩ ∧ sb < w.heap.size ∧ ∀ t, t < l1 → ∃ k n c s, ActAt w sb (off + t * 4) k n c s) := hid (fun h0 => h1.resolve_left (by omega))
  have HS2 : Hid (0 < l2 → ∃ sb off, a2 = some ⟨sb, off, none⟩ ∧ sb < w.heap.size ∧ ∀ t, t < l2 → ∃ k n c s, ActAt w sb (off + t * 4) k n c s) := hid (fun h0 => h2.resolve_left (by omega))
  have HE := hid (fun W => engine_any s 999 W hs (by decide) (by decide))
  clear h1 h2
  go_enter Try.func7, Try.ntmps7
  go_wp2_with fail
  go_at_call 9
  refine (HE.out _).mono ?_
  rintro e w1 (⟨rfl, hfr, q1, q2, q3, q4⟩ | ⟨x, r, rfl, hn, hroom, hsrc, hread, hval⟩)
  · have HF := hid hfr
    have HQ := hid q3
    clear hfr q3 q4
    go_wp2_with fail
    go_at_call 9
    refine (HE.out _).mono ?_
    rintro e w2 (⟨rfl, hfr, _⟩ | ⟨x, r, rfl, hn, hroom, hsrc, hread, hval⟩)
    · have HF2 := hid hfr
      clear hfr
      go_wp2_with fail
      go_ret
      exact ⟨rfl, (HF.out.trans HF2.out).below (Nat.le_refl _) (by simp)⟩
    · exact (hread.not_both HQ.out).elim
  have HN := hid hn
  have HRD : Hid (r.1.2 = 999 ∧ r.2.1 = s ∧ ReadAns s 0 0 (some r.2.2) ∧ r.1.1 = .bool false) := hid ⟨hroom, hsrc, hread, hval⟩
  clear hn hroom hsrc hread hval
  go_wp2_with fail
  go_at_call 9
  refine (HE.out _).mono ?_
  rintro e w2 (⟨rfl, hfr, q1, q2, q3, q4⟩ | ⟨y, r', rfl, hn, hroom, hsrc, hread, hval⟩)
  · exact (HRD.out.2.2.1.not_both q3).elim
  have er : r' = r := two_read HRD.out.1 HRD.out.2.1 HRD.out.2.2.1 HRD.out.2.2.2 hroom hsrc hread hval
  subst er
  have HST := hid (EE.start HN.out hn)
  have HF0 : Hid (Fit 0 (X0 r')) := hid (fit0 r' (by omega))
  have HR : Hid (RulesP r'.2.1 r'.2.2) := hid (by rw [hsrc]; exact read_rulesP hread)
  obtain ⟨a1', a2', a3'⟩ := abs_start r'
  have HA0 := hid a2'
  have HM0 := hid a3'
  have HO0 := hid (othN_start r' hroom)
  have HC0 := hid (HST.out.open2 HF0.out (by omega))
  have HF1 : Hid (Fit 1 (popenF (X0 r')).2) := hid HF0.out.open
  rw [a1'] at HC0
  generalize hG0 : nextF (X0 r') (popenF (X0 r')).2 (fun _ => noMk) = G0 at HC0 HM0
  generalize (popenF (X0 r')).2 = Y0 at HC0 HA0 HF1 hG0
  clear a1' a2' a3' hn hroom hsrc hread hval HE HN HRD HST hG0
  go_wp2_with fail
  go_at_call 13
  refine HC0.out.mono ?_
  rintro e w3 ⟨rfl, ht⟩
  have HEE := hid (ht.alloc #[.int .i64 0, .int .i64 0] 55)
  have hob := ht.room
  obtain ⟨ob, hobe⟩ : ∃ ob, ob = w3.heap.size := ⟨_, rfl⟩
  clear ht HC0
  go_wp2_with fail
  rw [← hobe] at HEE hob ⊢
  clear hobe
  go_loopw [14] (fun t wr => ∃ (k : Nat) (X : PEng) (F : Mks) (Y : PEng) (G : Mks) (o cm : Int), k ≤ l1 ∧ t = .int .i64 k ∧ EE w.heap.size x y w X F Y G [(ob, #[.int .i64 o, .int .i64 cm], 55)] wr ∧ Fit (2 * k + 1) X ∧ Fit (2 * k + 1) Y ∧ AbS X Y ∧ AbM F G ∧ OthN X o cm ∧ X.src = r') (fun t _ => l1 - (intOf t).toNat)
  case atStart => exact ⟨0, X0 r', _, Y0, G0, 0, 0, Nat.zero_le _, rfl, HEE.out, HF0.out.mono (by omega), HF1.out.mono (by omega), HA0.out, HM0.out, HO0.out, rfl⟩
  case round =>
    obtain ⟨k, X, F, Y, G, o, cm, hk, rfl, hL, hfx, hfy, hab, ham, hot, hsr⟩ := hrel
    have HL := hid hL
    have HFX := hid hfx
    have HFY := hid hfy
    have HAB := hid hab
    have HAM := hid ham
    have HOT := hid hot
    have HSR := hid hsr
    have HRX : Hid (RulesP X.src.2.1 X.src.2.2) := hid (by rw [hsr]; exact HR.out)
    have HRY : Hid (RulesP Y.src.2.1 Y.src.2.2) := hid (by rw [hab.src]; exact HRX.out)
    clear hL hfx hfy hab ham hot hsr HEE HF0 HF1 HA0 HM0 HO0
    by_cases hlt : k < l1
    · obtain ⟨sb, off, rfl, hsb, hscr⟩ := HS1.out (by omega)
      obtain ⟨kk, b, c, s', c0, c1', c2', c3', hs'⟩ := hscr k hlt
      clear hscr HS1
      have h63 : s'.size < 9223372036854775808 := Nat.lt_of_le_of_lt hs' (by decide)
      obtain ⟨SB, sv, vff, kk2, b2, cc2, s2, hSB⟩ : ∃ (SB : Bool) (sv vff : Nat) (kk2 b2 cc2 : Int) (s2 : ByteArray), (SB = true → k < l2 ∧ (kk2 = 2 ∨ kk2 = 3 ∨ kk2 = 8)) ∧ (SB = false → k < l2 → kk2 ≠ 2 ∧ kk2 ≠ 3 ∧ kk2 ≠ 8) ∧ (k < l2 → a2 = some ⟨sv, vff, none⟩ ∧ sv < w.heap.size ∧ ActAt w sv (vff + k * 4) kk2 b2 cc2 s2) := by
        by_cases hl : k < l2
        · obtain ⟨sv, vff, e, hsv, hvs⟩ := HS2.out (by omega)
          obtain ⟨kk2, b2, cc2, s2, hat⟩ := hvs k hl
          by_cases hq : kk2 = 2 ∨ kk2 = 3 ∨ kk2 = 8
          · exact ⟨true, sv, vff, kk2, b2, cc2, s2, fun _ => ⟨hl, hq⟩, fun h => (by cases h), fun _ => ⟨e, hsv, hat⟩⟩
          · exact ⟨false, sv, vff, kk2, b2, cc2, s2, fun h => (by cases h), fun _ _ => by omega, fun _ => ⟨e, hsv, hat⟩⟩
        · exact ⟨false, 0, 0, 0, 0, 0, s', fun h => (by cases h), fun _ h => absurd h hl, fun h => absurd h hl⟩
      have HSB := hid hSB
      clear hSB HS2
      go_upto_region 12 with fail
      go_cut [107] from 74 to 175 (fun v wx => v = .bool SB ∧ wx = wr)
      case first =>
        by_cases hl : k < l2
        · obtain ⟨hS1, hS2, hS3⟩ := HSB.out
          obtain ⟨rfl, hsv, cv, _⟩ := hS3 hl
          have dv := (HL.out.below.cell (p := ⟨sv, vff + k * 4, none⟩) hsv).trans cv
          clear hS3 cv
          cases SB with
          | true =>
            rcases (hS1 rfl).2 with rfl | rfl | rfl
            · clear hS1 hS2 HSB
              go_wp2_with fail
              go_meet
              exact ⟨rfl, rfl⟩
            · clear hS1 hS2 HSB
              go_wp2_with fail
              go_meet
              exact ⟨rfl, rfl⟩
            · clear hS1 hS2 HSB
              go_wp2_with fail
              go_meet
              exact ⟨rfl, rfl⟩
          | false =>
            obtain ⟨m2, m3, m8⟩ := hS2 rfl hl
            have q2 : (kk2 == 2) = false := by simpa using m2
            have q3 : (kk2 == 3) = false := by simpa using m3
            have q8 : (kk2 == 8) = false := by simpa using m8
            clear hS1 hS2 HSB m2 m3 m8
            go_wp2_with fail
            go_meet
            exact ⟨rfl, rfl⟩
        · cases SB with
          | true => exact absurd (HSB.out.1 rfl).1 hl
          | false =>
            have ql : ¬ (k : Int) < (l2 : Int) := by omega
            go_wp2_with fail
            go_meet
            exact ⟨rfl, rfl⟩
      case rest =>
      obtain ⟨rfl, rfl⟩ := hcut
      go_upto_if 107 with fail
      go_cut [15] from 74 to 175 (fun p wx => ∃ (Y' : PEng) (G' : Mks), EE w.heap.size x y w X F Y' G' [(ob, #[.int .i64 o, .int .i64 cm], 55)] wx ∧ Fit (2 * k + 2) Y' ∧ AbS X Y' ∧ AbM F G')
      case first =>
        cases SB with
        | false =>
          go_wp2_with fail
          go_meet
          exact ⟨Y, G, HL.out, HFY.out.mono (by omega), HAB.out, HAM.out⟩
        | true =>
          obtain ⟨hl, hS1⟩ := HSB.out.1 rfl
          obtain ⟨rfl, hsv, v0, v1, v2, v3, hs2⟩ := HSB.out.2.2 hl
          have hBe := HL.out.below
          have d0 := (hBe.cell (p := ⟨sv, vff + k * 4, none⟩) hsv).trans v0
          have d1 := (hBe.cell (p := ⟨sv, vff + k * 4 + 1, none⟩) hsv).trans v1
          have d2 := (hBe.cell (p := ⟨sv, vff + k * 4 + 2, none⟩) hsv).trans v2
          have d3 := (hBe.cell (p := ⟨sv, vff + k * 4 + 3, none⟩) hsv).trans v3
          have HC := hid ((HL.out.alloc #[.int .i64 kk2, .int .i64 1, .int .i64 cc2, .string s2] 33).act2 HFY.out (by omega) HRY.out kk2 1 cc2 s2 (Nat.lt_of_le_of_lt hs2 (by decide)))
          have HFN := hid (HFY.out.act G kk2 1 cc2 s2 HRY.out)
          have HAN := hid (HAB.out.strange HAM.out HFY.out HRY.out kk2 cc2 s2 hS1)
          generalize pact Y G kk2 1 cc2 s2 = pb at HC HFN HAN
          clear hBe v0 v1 v2 v3 HSB hS1
          go_wp2_with fail
          go_at_call 16
          refine HC.out.mono ?_
          rintro e w4 ⟨rfl, ht⟩
          have HT := hid (ht.less (Bx' := [(ob, #[.int .i64 o, .int .i64 cm], 55)]) (by simp))
          clear ht HC
          go_wp2_with fail
          go_meet
          exact ⟨pb.2.1, pb.2.2, HT.out, HFN.out, HAN.out.1, HAN.out.2⟩
      case rest =>
      obtain ⟨Y', G', hL', hfy', hab', ham'⟩ := hcut
      have HFY' := hid hfy'
      have HAB' := hid hab'
      have HAM' := hid ham'
      have HRY' : Hid (RulesP Y'.src.2.1 Y'.src.2.2) := hid (by rw [hab'.src]; exact HRX.out)
      have hBe := hL'.below
      have d0 := (hBe.cell (p := ⟨sb, off + k * 4, none⟩) hsb).trans c0
      have d1 := (hBe.cell (p := ⟨sb, off + k * 4 + 1, none⟩) hsb).trans c1'
      have d2 := (hBe.cell (p := ⟨sb, off + k * 4 + 2, none⟩) hsb).trans c2'
      have d3 := (hBe.cell (p := ⟨sb, off + k * 4 + 3, none⟩) hsb).trans c3'
      have HT := hid (hL'.alloc #[.int .i64 kk, .int .i64 b, .int .i64 c, .string s'] 33)
      have HBW := hid hL'.room
      have HOW := hid (lt_of_block (hL'.box (b := (ob, #[.int .i64 o, .int .i64 cm], 55)) (by simp)))
      have HCM := hid (omany_any ob kk b c s' o cm _ (HT.out.box (b := (ob, #[.int .i64 o, .int .i64 cm], 55)) (by simp)))
      clear hL' hfy' hab' ham' hBe c0 c1' c2' c3' HL HFY HAB HAM HRY HSB
      go_wp2_with fail
      go_at_call 21
      refine HCM.out.mono ?_
      rintro e w4 ⟨rr, rfl, hrr, hfr⟩
      have HE4 := hid (HT.out.quiet hfr)
      have HEN := hid (HE4.out.less (Bx' := [(ob, #[.int .i64 o, .int .i64 cm], 55)]) (by simp))
      have HRR := hid hrr
      have bk := HE4.out.box (b := (wc.heap.size, #[.int .i64 kk, .int .i64 b, .int .i64 c, .string s'], 33)) (by simp)
      obtain ⟨bx, hbx⟩ : ∃ bx, bx = wc.heap.size := ⟨_, rfl⟩
      rw [← hbx] at bk HE4 ⊢
      have HBX := hid hbx
      have hbw : w.heap.size ≤ bx := by rw [hbx]; exact HBW.out
      have hobx : ob ≠ bx := by rw [hbx]; exact Nat.ne_of_lt HOW.out
      have hlt4 := lt_of_block bk
      obtain ⟨p0, p1, p2, p3⟩ := box4 bk
      have zp := frozen_blk bk
      have HBK := hid bk
      clear hrr hfr HT HCM d0 d1 d2 d3 bk hbx
      cases rr with
      | true =>
        by_cases hnm : 1 ≤ b ∧ b < 1152921504606846976
        · obtain ⟨n1, n2⟩ := hnm
          go_wp2_with fail
          go_roundw
          case rel => exact ⟨k + 1, X, F, Y', G', o, cm, by omega, by go_num, HEN.out, HFX.out.mono (by omega), HFY'.out.mono (by omega), HAB'.out, HAM'.out, HOT.out, HSR.out⟩
          case measure => simp [intOf]; omega
        · by_cases n1 : 1 ≤ b
          · have n2 : ¬ b < 1152921504606846976 := fun h => hnm ⟨n1, h⟩
            clear hnm
            go_wp2_with fail
            go_roundw
            case rel => exact ⟨k + 1, X, F, Y', G', o, cm, by omega, by go_num, HEN.out, HFX.out.mono (by omega), HFY'.out.mono (by omega), HAB'.out, HAM'.out, HOT.out, HSR.out⟩
            case measure => simp [intOf]; omega
          · clear hnm
            go_wp2_with fail
            go_roundw
            case rel => exact ⟨k + 1, X, F, Y', G', o, cm, by omega, by go_num, HEN.out, HFX.out.mono (by omega), HFY'.out.mono (by omega), HAB'.out, HAM'.out, HOT.out, HSR.out⟩
            case measure => simp [intOf]; omega
      | false =>
      have HMY : Hid (¬ manyB kk o cm) := hid (fun h => by have := HRR.out.2 h; cases this)
      by_cases m9 : kk = 9
      · subst m9
        by_cases n1 : 1 ≤ b
        · by_cases n2 : b < 1152921504606846976
          · go_wp2_with fail
            go_roundw
            case rel => exact ⟨k + 1, X, F, Y', G', o, cm, by omega, by go_num, HEN.out, HFX.out.mono (by omega), HFY'.out.mono (by omega), HAB'.out, HAM'.out, HOT.out, HSR.out⟩
            case measure => simp [intOf]; omega
          · go_wp2_with fail
            go_roundw
            case rel => exact ⟨k + 1, X, F, Y', G', o, cm, by omega, by go_num, HEN.out, HFX.out.mono (by omega), HFY'.out.mono (by omega), HAB'.out, HAM'.out, HOT.out, HSR.out⟩
            case measure => simp [intOf]; omega
        · go_wp2_with fail
          go_roundw
          case rel => exact ⟨k + 1, X, F, Y', G', o, cm, by omega, by go_num, HEN.out, HFX.out.mono (by omega), HFY'.out.mono (by omega), HAB'.out, HAM'.out, HOT.out, HSR.out⟩
          case measure => simp [intOf]; omega
      by_cases m10 : kk = 10
      · subst m10
        by_cases n1 : 1 ≤ b
        · by_cases n2 : b < 1152921504606846976
          · go_wp2_with fail
            go_roundw
            case rel => exact ⟨k + 1, X, F, Y', G', o, cm, by omega, by go_num, HEN.out, HFX.out.mono (by omega), HFY'.out.mono (by omega), HAB'.out, HAM'.out, HOT.out, HSR.out⟩
            case measure => simp [intOf]; omega
          · go_wp2_with fail
            go_roundw
            case rel => exact ⟨k + 1, X, F, Y', G', o, cm, by omega, by go_num, HEN.out, HFX.out.mono (by omega), HFY'.out.mono (by omega), HAB'.out, HAM'.out, HOT.out, HSR.out⟩
            case measure => simp [intOf]; omega
        · go_wp2_with fail
          go_roundw
          case rel => exact ⟨k + 1, X, F, Y', G', o, cm, by omega, by go_num, HEN.out, HFX.out.mono (by omega), HFY'.out.mono (by omega), HAB'.out, HAM'.out, HOT.out, HSR.out⟩
          case measure => simp [intOf]; omega
      have q9 : (kk == 9) = false := by simpa using m9
      have q10 : (kk == 10) = false := by simpa using m10
      by_cases m1 : kk = 1
      · subst m1
        clear m9 m10 q9 q10
        by_cases n1 : 1 ≤ b
        · by_cases n2 : b < 1152921504606846976
          · have hop := HFX.out.opened
            obtain ⟨t1, t2, t3, t4, _⟩ := HAB'.out.opens HAM'.out HFX.out (HOT.out.free (by have := HMY.out; unfold manyB at this; omega))
            have HPX : Hid (pact X F 1 b c s' = ((ByteArray.empty, X.opened + 1, 0, 0), (popenF X).2, nextF X (popenF X).2 F)) := hid (by rw [pact_open, t1])
            have HPY : Hid (pact Y' G' 1 (b + 1) c s' = ((ByteArray.empty, X.opened + 2, 0, 0), (popenF Y').2, nextF Y' (popenF Y').2 G')) := hid (by rw [pact_open, t2])
            have HT3 := hid t3
            have HT4 := hid t4
            have HC := hid (HE4.out.act1 HFX.out (by omega) HRX.out 1 b c s' h63)
            have HFXN := hid (HFX.out.act F 1 b c s' HRX.out)
            have HSRN : Hid ((pact X F 1 b c s').2.1.src = r') := hid (by rw [pact_src HFX.out]; exact HSR.out)
            have HOA := hid (HOT.out.act HAB'.out HFX.out F 1 b c s' HRX.out (fun h => absurd rfl h) (by omega) HMY.out)
            have HFYN := hid (HFY'.out.act G' 1 (b + 1) c s' HRY'.out)
            rw [HPX.out] at HC HFXN HSRN HOA
            rw [HPY.out] at HFYN
            simp only at HC HFXN HSRN HOA HFYN
            generalize hF1 : nextF X (popenF X).2 F = F1 at HC HT4 HPX
            generalize hX1 : (popenF X).2 = X1 at HC HFXN HSRN HOA HT3 HPX hF1
            clear t1 t2 t3 t4 HPX hF1 hX1
            have hpo := hop
            generalize hOP : X.opened = op at HC HOA HPY hop
            clear hpo hOP
            go_wp2_with fail
            go_at_call 16
            refine HC.out.mono ?_
            rintro e w5 ⟨rfl, ht⟩
            have bk5 := ht.box (b := (bx, #[.int .i64 1, .int .i64 b, .int .i64 c, .string s'], 33)) (by simp)
            have hlt5 := lt_of_block bk5
            have hne5 : bx ≠ w5.heap.size := by omega
            obtain ⟨g0, g1, g2, g3⟩ := box4 bk5
            have zg := frozen_blk bk5
            have HS5 := hid (ht.rebox (cs' := #[.int .i64 1, .int .i64 (b + 1), .int .i64 c, .string s']) hbw (fun b hb => by rw [List.mem_singleton] at hb; subst hb; exact hobx) ((Fr.refl [bx] w5).set (.inl (by simp)) (.int .i64 (b + 1))) (blk_setCell bk5 1 (.int .i64 (b + 1))))
            have HT5 := hid (HS5.out.alloc #[.string ByteArray.empty, .int .i64 (op + 1), .int .i64 0, .int .i64 0] 44)
            have hsz5 : (w5.setCell ⟨bx, 1, none⟩ (.int .i64 (b + 1))).heap.size = w5.heap.size := by simp
            rw [hsz5] at HT5
            clear HS5 hsz5
            have HC2 := hid (HT5.out.act2 HFY'.out (by omega) HRY'.out 1 (b + 1) c s' h63)
            rw [HPY.out] at HC2
            simp only at HC2
            generalize hG1 : nextF Y' (popenF Y').2 G' = G1 at HC2 HT4 HPY
            generalize hY1 : (popenF Y').2 = Y1 at HC2 HFYN HT3 HPY hG1
            clear hG1 hY1 HPY
            clear ht HC p0 p1 p2 p3 zp hlt4 bk5
            go_wp2_with fail
            go_at_call 16
            refine HC2.out.mono ?_
            rintro e w6 ⟨rfl, ht⟩
            have HT7 := hid (ht.alloc #[.string ByteArray.empty, .int .i64 (op + 1), .int .i64 0, .int .i64 0] 44)
            have b1' := ht.box (b := (w5.heap.size, #[.string ByteArray.empty, .int .i64 (op + 1), .int .i64 0, .int .i64 0], 44)) (by simp)
            have b3' := ht.box (b := (bx, #[.int .i64 1, .int .i64 (b + 1), .int .i64 c, .string s'], 33)) (by simp)
            have hl1' := lt_of_block b1'
            have hl3' := lt_of_block b3'
            have hn1' : w5.heap.size ≠ w6.heap.size := by omega
            have hn3' : bx ≠ w6.heap.size := by omega
            have HCN := hid (onote_any ob 1 (b + 1) c s' ByteArray.empty (op + 1) 0 0 o cm _ (HT7.out.box (b := (ob, #[.int .i64 o, .int .i64 cm], 55)) (by simp)) HOT.out.bd HOT.out.com)
            obtain ⟨p0, p1, p2, p3⟩ := box4 b1'
            obtain ⟨y0, y1, y2, y3⟩ := box4 b3'
            have hq := ans_neq (w6.alloc (.cells #[.string ByteArray.empty, .int .i64 (op + 1), .int .i64 0, .int .i64 0] 44)) ByteArray.empty (op + 1) 0 0
            have hq2 := ans_guard (w6.alloc (.cells #[.string ByteArray.empty, .int .i64 (op + 1), .int .i64 0, .int .i64 0] 44)) .neq
            have HEL := hid (HT7.out.less (Bx' := [(ob, #[.int .i64 o, .int .i64 cm], 55)]) (by simp))
            clear ht HC2 g0 g1 g2 g3 zg b1' b3' HT5 HT7
            go_wp2_with fail
            rw [show op + 2 - 1 = op + 1 by omega]
            go_at_call 22
            refine HCN.out.mono ?_
            rintro e w8 ⟨rfl, hnb, hnf⟩
            have HEN2 := hid (HEL.out.rebox (cs' := _) hob (by simp) hnf hnb)
            clear hnb hnf HCN HEL
            go_wp2_with fail
            go_roundw
            case rel => exact ⟨k + 1, X1, F1, Y1, G1, _, _, by omega, by go_num, HEN2.out, HFXN.out.mono (by omega), HFYN.out.mono (by omega), HT3.out, HT4.out, HOA.out, HSRN.out⟩
            case measure => simp [intOf]; omega
          · have qn : decide (b < 1152921504606846976) = false := by simpa using n2
            have hop := HFX.out.opened
            obtain ⟨t1, t2, t3, t4, _⟩ := HAB'.out.opens HAM'.out HFX.out (HOT.out.free (by have := HMY.out; unfold manyB at this; omega))
            have HPX : Hid (pact X F 1 b c s' = ((ByteArray.empty, X.opened + 1, 0, 0), (popenF X).2, nextF X (popenF X).2 F)) := hid (by rw [pact_open, t1])
            have HPY : Hid (pact Y' G' 1 b c s' = ((ByteArray.empty, X.opened + 2, 0, 0), (popenF Y').2, nextF Y' (popenF Y').2 G')) := hid (by rw [pact_open, t2])
            have HT3 := hid t3
            have HT4 := hid t4
            have HC := hid (HE4.out.act1 HFX.out (by omega) HRX.out 1 b c s' h63)
            have HFXN := hid (HFX.out.act F 1 b c s' HRX.out)
            have HSRN : Hid ((pact X F 1 b c s').2.1.src = r') := hid (by rw [pact_src HFX.out]; exact HSR.out)
            have HOA := hid (HOT.out.act HAB'.out HFX.out F 1 b c s' HRX.out (fun h => absurd rfl h) (by omega) HMY.out)
            have HFYN := hid (HFY'.out.act G' 1 b c s' HRY'.out)
            rw [HPX.out] at HC HFXN HSRN HOA
            rw [HPY.out] at HFYN
            simp only at HC HFXN HSRN HOA HFYN
            generalize hF1 : nextF X (popenF X).2 F = F1 at HC HT4 HPX
            generalize hX1 : (popenF X).2 = X1 at HC HFXN HSRN HOA HT3 HPX hF1
            clear t1 t2 t3 t4 HPX hF1 hX1
            have hpo := hop
            generalize hOP : X.opened = op at HC HOA HPY hop
            clear hpo hOP
            go_wp2_with fail
            go_at_call 16
            refine HC.out.mono ?_
            rintro e w5 ⟨rfl, ht⟩
            have bk5 := ht.box (b := (bx, #[.int .i64 1, .int .i64 b, .int .i64 c, .string s'], 33)) (by simp)
            have hlt5 := lt_of_block bk5
            have hne5 : bx ≠ w5.heap.size := by omega
            obtain ⟨g0, g1, g2, g3⟩ := box4 bk5
            have zg := frozen_blk bk5
            have HT5 := hid (ht.alloc #[.string ByteArray.empty, .int .i64 (op + 1), .int .i64 0, .int .i64 0] 44)
            have HC2 := hid (HT5.out.act2 HFY'.out (by omega) HRY'.out 1 b c s' h63)
            rw [HPY.out] at HC2
            simp only at HC2
            generalize hG1 : nextF Y' (popenF Y').2 G' = G1 at HC2 HT4 HPY
            generalize hY1 : (popenF Y').2 = Y1 at HC2 HFYN HT3 HPY hG1
            clear hG1 hY1 HPY
            clear ht HC p0 p1 p2 p3 zp hlt4 bk5
            go_wp2_with fail
            go_at_call 16
            refine HC2.out.mono ?_
            rintro e w6 ⟨rfl, ht⟩
            have HT7 := hid (ht.alloc #[.string ByteArray.empty, .int .i64 (op + 1), .int .i64 0, .int .i64 0] 44)
            have b1' := ht.box (b := (w5.heap.size, #[.string ByteArray.empty, .int .i64 (op + 1), .int .i64 0, .int .i64 0], 44)) (by simp)
            have b3' := ht.box (b := (bx, #[.int .i64 1, .int .i64 b, .int .i64 c, .string s'], 33)) (by simp)
            have hl1' := lt_of_block b1'
            have hl3' := lt_of_block b3'
            have hn1' : w5.heap.size ≠ w6.heap.size := by omega
            have hn3' : bx ≠ w6.heap.size := by omega
            have HCN := hid (onote_any ob 1 b c s' ByteArray.empty (op + 1) 0 0 o cm _ (HT7.out.box (b := (ob, #[.int .i64 o, .int .i64 cm], 55)) (by simp)) HOT.out.bd HOT.out.com)
            obtain ⟨p0, p1, p2, p3⟩ := box4 b1'
            obtain ⟨y0, y1, y2, y3⟩ := box4 b3'
            have hq := ans_neq (w6.alloc (.cells #[.string ByteArray.empty, .int .i64 (op + 1), .int .i64 0, .int .i64 0] 44)) ByteArray.empty (op + 1) 0 0
            have hq2 := ans_guard (w6.alloc (.cells #[.string ByteArray.empty, .int .i64 (op + 1), .int .i64 0, .int .i64 0] 44)) .neq
            have HEL := hid (HT7.out.less (Bx' := [(ob, #[.int .i64 o, .int .i64 cm], 55)]) (by simp))
            clear ht HC2 g0 g1 g2 g3 zg b1' b3' HT5 HT7
            go_wp2_with fail
            rw [show op + 2 - 1 = op + 1 by omega]
            go_at_call 22
            refine HCN.out.mono ?_
            rintro e w8 ⟨rfl, hnb, hnf⟩
            have HEN2 := hid (HEL.out.rebox (cs' := _) hob (by simp) hnf hnb)
            clear hnb hnf HCN HEL
            go_wp2_with fail
            go_roundw
            case rel => exact ⟨k + 1, X1, F1, Y1, G1, _, _, by omega, by go_num, HEN2.out, HFXN.out.mono (by omega), HFYN.out.mono (by omega), HT3.out, HT4.out, HOA.out, HSRN.out⟩
            case measure => simp [intOf]; omega
        · have hop := HFX.out.opened
          obtain ⟨t1, t2, t3, t4, _⟩ := HAB'.out.opens HAM'.out HFX.out (HOT.out.free (by have := HMY.out; unfold manyB at this; omega))
          have HPX : Hid (pact X F 1 b c s' = ((ByteArray.empty, X.opened + 1, 0, 0), (popenF X).2, nextF X (popenF X).2 F)) := hid (by rw [pact_open, t1])
          have HPY : Hid (pact Y' G' 1 b c s' = ((ByteArray.empty, X.opened + 2, 0, 0), (popenF Y').2, nextF Y' (popenF Y').2 G')) := hid (by rw [pact_open, t2])
          have HT3 := hid t3
          have HT4 := hid t4
          have HC := hid (HE4.out.act1 HFX.out (by omega) HRX.out 1 b c s' h63)
          have HFXN := hid (HFX.out.act F 1 b c s' HRX.out)
          have HSRN : Hid ((pact X F 1 b c s').2.1.src = r') := hid (by rw [pact_src HFX.out]; exact HSR.out)
          have HOA := hid (HOT.out.act HAB'.out HFX.out F 1 b c s' HRX.out (fun h => absurd rfl h) (by omega) HMY.out)
          have HFYN := hid (HFY'.out.act G' 1 b c s' HRY'.out)
          rw [HPX.out] at HC HFXN HSRN HOA
          rw [HPY.out] at HFYN
          simp only at HC HFXN HSRN HOA HFYN
          generalize hF1 : nextF X (popenF X).2 F = F1 at HC HT4 HPX
          generalize hX1 : (popenF X).2 = X1 at HC HFXN HSRN HOA HT3 HPX hF1
          clear t1 t2 t3 t4 HPX hF1 hX1
          have hpo := hop
          generalize hOP : X.opened = op at HC HOA HPY hop
          clear hpo hOP
          go_wp2_with fail
          go_at_call 16
          refine HC.out.mono ?_
          rintro e w5 ⟨rfl, ht⟩
          have bk5 := ht.box (b := (bx, #[.int .i64 1, .int .i64 b, .int .i64 c, .string s'], 33)) (by simp)
          have hlt5 := lt_of_block bk5
          have hne5 : bx ≠ w5.heap.size := by omega
          obtain ⟨g0, g1, g2, g3⟩ := box4 bk5
          have zg := frozen_blk bk5
          have HT5 := hid (ht.alloc #[.string ByteArray.empty, .int .i64 (op + 1), .int .i64 0, .int .i64 0] 44)
          have HC2 := hid (HT5.out.act2 HFY'.out (by omega) HRY'.out 1 b c s' h63)
          rw [HPY.out] at HC2
          simp only at HC2
          generalize hG1 : nextF Y' (popenF Y').2 G' = G1 at HC2 HT4 HPY
          generalize hY1 : (popenF Y').2 = Y1 at HC2 HFYN HT3 HPY hG1
          clear hG1 hY1 HPY
          clear ht HC p0 p1 p2 p3 zp hlt4 bk5
          go_wp2_with fail
          go_at_call 16
          refine HC2.out.mono ?_
          rintro e w6 ⟨rfl, ht⟩
          have HT7 := hid (ht.alloc #[.string ByteArray.empty, .int .i64 (op + 1), .int .i64 0, .int .i64 0] 44)
          have b1' := ht.box (b := (w5.heap.size, #[.string ByteArray.empty, .int .i64 (op + 1), .int .i64 0, .int .i64 0], 44)) (by simp)
          have b3' := ht.box (b := (bx, #[.int .i64 1, .int .i64 b, .int .i64 c, .string s'], 33)) (by simp)
          have hl1' := lt_of_block b1'
          have hl3' := lt_of_block b3'
          have hn1' : w5.heap.size ≠ w6.heap.size := by omega
          have hn3' : bx ≠ w6.heap.size := by omega
          have HCN := hid (onote_any ob 1 b c s' ByteArray.empty (op + 1) 0 0 o cm _ (HT7.out.box (b := (ob, #[.int .i64 o, .int .i64 cm], 55)) (by simp)) HOT.out.bd HOT.out.com)
          obtain ⟨p0, p1, p2, p3⟩ := box4 b1'
          obtain ⟨y0, y1, y2, y3⟩ := box4 b3'
          have hq := ans_neq (w6.alloc (.cells #[.string ByteArray.empty, .int .i64 (op + 1), .int .i64 0, .int .i64 0] 44)) ByteArray.empty (op + 1) 0 0
          have hq2 := ans_guard (w6.alloc (.cells #[.string ByteArray.empty, .int .i64 (op + 1), .int .i64 0, .int .i64 0] 44)) .neq
          have HEL := hid (HT7.out.less (Bx' := [(ob, #[.int .i64 o, .int .i64 cm], 55)]) (by simp))
          clear ht HC2 g0 g1 g2 g3 zg b1' b3' HT5 HT7
          go_wp2_with fail
          rw [show op + 2 - 1 = op + 1 by omega]
          go_at_call 22
          refine HCN.out.mono ?_
          rintro e w8 ⟨rfl, hnb, hnf⟩
          have HEN2 := hid (HEL.out.rebox (cs' := _) hob (by simp) hnf hnb)
          clear hnb hnf HCN HEL
          go_wp2_with fail
          go_roundw
          case rel => exact ⟨k + 1, X1, F1, Y1, G1, _, _, by omega, by go_num, HEN2.out, HFXN.out.mono (by omega), HFYN.out.mono (by omega), HT3.out, HT4.out, HOA.out, HSRN.out⟩
          case measure => simp [intOf]; omega
      have q1 : (kk == 1) = false := by simpa using m1
      by_cases n1 : 1 ≤ b
      · by_cases n2 : b < 1152921504606846976
        · have HC := hid (HE4.out.act1 HFX.out (by omega) HRX.out kk b c s' h63)
          have HFXN := hid (HFX.out.act F kk b c s' HRX.out)
          have HSRN : Hid ((pact X F kk b c s').2.1.src = r') := hid (by rw [pact_src HFX.out]; exact HSR.out)
          have HOA := hid (HOT.out.act HAB'.out HFX.out F kk b c s' HRX.out (fun _ => n1) m10 HMY.out)
          have HSA := hid (HAB'.out.act HAM'.out HFX.out kk b c s' HRX.out n1 m1 m10 (fun h6 => HOT.out.full (by have := HMY.out; unfold manyB at this; omega)))
          have HFYN := hid (HFY'.out.act G' kk (b + 1) c s' HRY'.out)
          generalize hPA : pact X F kk b c s' = pa at HC HSA HFXN HSRN HOA
          have HCK := hid m1
          clear hPA m9 m10
          go_wp2_with fail
          go_at_call 16
          refine HC.out.mono ?_
          rintro e w5 ⟨rfl, ht⟩
          have bk5 := ht.box (b := (bx, #[.int .i64 kk, .int .i64 b, .int .i64 c, .string s'], 33)) (by simp)
          have hlt5 := lt_of_block bk5
          have hne5 : bx ≠ w5.heap.size := by omega
          obtain ⟨g0, g1, g2, g3⟩ := box4 bk5
          have zg := frozen_blk bk5
          have HS5 := hid (ht.rebox (cs' := #[.int .i64 kk, .int .i64 (b + 1), .int .i64 c, .string s']) hbw (fun b hb => by rw [List.mem_singleton] at hb; subst hb; exact hobx) ((Fr.refl [bx] w5).set (.inl (by simp)) (.int .i64 (b + 1))) (blk_setCell bk5 1 (.int .i64 (b + 1))))
          have HT5 := hid (HS5.out.alloc #[.string pa.1.1, .int .i64 pa.1.2.1, .int .i64 pa.1.2.2.1, .int .i64 pa.1.2.2.2] 44)
          have hsz5 : (w5.setCell ⟨bx, 1, none⟩ (.int .i64 (b + 1))).heap.size = w5.heap.size := by simp
          rw [hsz5] at HT5
          clear HS5 hsz5
          have HC2 := hid (HT5.out.act2 HFY'.out (by omega) HRY'.out kk (b + 1) c s' h63)
          generalize hPB : pact Y' G' kk (b + 1) c s' = pb at HC2 HSA HFYN
          rw [HSA.out.1] at HC2
          clear hPB
          clear ht HC p0 p1 p2 p3 zp hlt4 bk5
          go_wp2_with fail
          go_at_call 16
          refine HC2.out.mono ?_
          rintro e w6 ⟨rfl, ht⟩
          have HT7 := hid (ht.alloc #[.string pa.1.1, .int .i64 pa.1.2.1, .int .i64 pa.1.2.2.1, .int .i64 pa.1.2.2.2] 44)
          have b1' := HT7.out.box (b := (w5.heap.size, #[.string pa.1.1, .int .i64 pa.1.2.1, .int .i64 pa.1.2.2.1, .int .i64 pa.1.2.2.2], 44)) (by simp)
          have b2' := HT7.out.box (b := (w6.heap.size, #[.string pa.1.1, .int .i64 pa.1.2.1, .int .i64 pa.1.2.2.1, .int .i64 pa.1.2.2.2], 44)) (by simp)
          have b3' := HT7.out.box (b := (bx, #[.int .i64 kk, .int .i64 (b + 1), .int .i64 c, .string s'], 33)) (by simp)
          have HCN := hid (onote_any ob kk (b + 1) c s' pa.1.1 pa.1.2.1 pa.1.2.2.1 pa.1.2.2.2 o cm _ (HT7.out.box (b := (ob, #[.int .i64 o, .int .i64 cm], 55)) (by simp)) HOT.out.bd HOT.out.com)
          obtain ⟨p0, p1, p2, p3⟩ := box4 b1'
          obtain ⟨v0, v1, v2, v3⟩ := box4 b2'
          obtain ⟨y0, y1, y2, y3⟩ := box4 b3'
          have hq := ans_neq (w6.alloc (.cells #[.string pa.1.1, .int .i64 pa.1.2.1, .int .i64 pa.1.2.2.1, .int .i64 pa.1.2.2.2] 44)) pa.1.1 pa.1.2.1 pa.1.2.2.1 pa.1.2.2.2
          have hq2 := ans_guard (w6.alloc (.cells #[.string pa.1.1, .int .i64 pa.1.2.1, .int .i64 pa.1.2.2.1, .int .i64 pa.1.2.2.2] 44)) .neq
          have HEL := hid (HT7.out.less (Bx' := [(ob, #[.int .i64 o, .int .i64 cm], 55)]) (by simp))
          clear ht HC2 g0 g1 g2 g3 zg b1' b2' b3' HT5 HT7
          go_wp2_with fail
          go_at_call 22
          refine HCN.out.mono ?_
          rintro e w8 ⟨rfl, hnb, hnf⟩
          have HEN2 := hid (HEL.out.rebox (cs' := _) hob (by simp) hnf hnb)
          clear hnb hnf HCN HEL
          go_wp2_with fail
          go_roundw
          case rel => exact ⟨k + 1, pa.2.1, pa.2.2, pb.2.1, pb.2.2, _, _, by omega, by go_num, HEN2.out, HFXN.out.mono (by omega), HFYN.out.mono (by omega), HSA.out.2.1, HSA.out.2.2, HOA.out, HSRN.out⟩
          case measure => simp [intOf]; omega
        · have qn : decide (b < 1152921504606846976) = false := by simpa using n2
          go_wp2_with fail
          go_roundw
          case rel => exact ⟨k + 1, X, F, Y', G', o, cm, by omega, by go_num, HEN.out, HFX.out.mono (by omega), HFY'.out.mono (by omega), HAB'.out, HAM'.out, HOT.out, HSR.out⟩
          case measure => simp [intOf]; omega
      · go_wp2_with fail
        go_roundw
        case rel => exact ⟨k + 1, X, F, Y', G', o, cm, by omega, by go_num, HEN.out, HFX.out.mono (by omega), HFY'.out.mono (by omega), HAB'.out, HAM'.out, HOT.out, HSR.out⟩
        case measure => simp [intOf]; omega
    · have hkl : k = l1 := by omega
      subst hkl
      obtain ⟨e1, e2, e3⟩ := HAB.out.ends HFX.out
      have HC1 := hid (HL.out.abort2 1)
      have HFY1 : Hid (Fit (2 * k + 2) (pabortF Y 1).2) := hid (HFY.out.abort 1)
      have HE2 := hid e2
      have HE3 := hid e3
      rw [e1] at HC1
      generalize nextF Y (pabortF Y 1).2 G = G1 at HC1
      generalize (pabortF Y 1).2 = Y1 at HC1 HFY1 HE2 HE3
      have HX1 : Hid (Fit (2 * k + 2) (psweepF X).2) := hid HFX.out.sweep
      have HY1 : Hid (Fit (2 * k + 3) (psweepF Y1).2) := hid HFY1.out.sweep
      have hkr := HX1.out.kept
      have HRM2 : Hid ((psweepF X).2.room = 999) := hid HOT.out.room
      rw [HRM2.out] at hkr
      clear e1 e2 e3
      go_wp2_with fail
      go_at_call 23
      refine HC1.out.mono ?_
      rintro e wA ⟨rfl, ht⟩
      have HC2 := hid (ht.abort2 1)
      rw [HE2.out] at HC2
      simp only at HC2
      generalize nextF Y1 Y1 G1 = G2 at HC2
      clear ht HC1
      go_wp2_with fail
      go_at_call 23
      refine HC2.out.mono ?_
      rintro e wB ⟨rfl, ht⟩
      have HC3 := hid (ht.sweep1 HFX.out (by omega))
      generalize (psweepF X).2 = X1 at HC3 HX1 HE3 hkr HRM2
      clear ht HC2 HE2
      go_wp2_with fail
      go_at_call 24
      refine HC3.out.mono ?_
      rintro e wC ⟨rfl, ht⟩
      have HC4 := hid (ht.sweep2 HFY1.out (by omega))
      generalize (psweepF Y1).2 = Y2 at HC4 HY1 HE3
      clear ht HC3
      go_wp2_with fail
      go_at_call 24
      refine HC4.out.mono ?_
      rintro e wD ⟨rfl, ht⟩
      have HC5 := hid (ht.keep1 HX1.out (by omega))
      clear ht HC4
      go_wp2_with fail
      go_at_call 25
      refine HC5.out.mono ?_
      rintro e wE ⟨rfl, ht⟩
      have HC6 := hid (ht.keep2 HY1.out (by omega))
      rw [HE3.out] at HC6
      generalize keptN X1 60 = kn at HC6 hkr
      clear ht HC5
      go_wp2_with fail
      go_at_call 25
      refine HC6.out.mono ?_
      rintro e wF ⟨rfl, ht⟩
      have HBE := hid ht.below
      clear ht HC6
      go_wp2_with fail
      go_ret
      exact ⟨rfl, HBE.out⟩

end Go.Proofs.Ythlhbjnkohinmaa
