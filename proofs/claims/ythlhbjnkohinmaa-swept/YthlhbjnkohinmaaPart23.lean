import Derived.Test.YthlhbjnkohinmaaPart18
import Derived.Laws.StructEq
import Derived.Test.YthlhbjnkohinmaaPart22
import Derived.Test.YthlhbjnkohinmaaSwq
/- Answers compared. -/
namespace Go.Proofs.Ythlhbjnkohinmaa
open Go.RowKit

theorem ans_guard (W : World) (op : BinOp) (x y : Operand) (xs ys : Array Value) : (eqGuard op 44 x y (.agg xs) (.agg ys)).run Try.prog W = .ok () W := run_eqGuard_agg W op _ x y xs ys (by kernel_rfl)
set_option maxRecDepth 20000 in
theorem ans_in (W : World) (s : ByteArray) (n m e : Int) : (Op.equalIn 10000 44 (.agg #[.string s, .int .i64 n, .int .i64 m, .int .i64 e]) (.agg #[.string s, .int .i64 n, .int .i64 m, .int .i64 e])).run Try.prog W = .ok true W := by
  rw [run_equalIn_agg W 9999 _ _ _ (by kernel_rfl) (by kernel_rfl)]
  unfold Program.fieldsOf
  rw [Try.underlying44]
  simp only []
  go_simp
theorem ans_neq (W : World) (s : ByteArray) (n m e : Int) : (binOp .neq 44 (.agg #[.string s, .int .i64 n, .int .i64 m, .int .i64 e]) (.agg #[.string s, .int .i64 n, .int .i64 m, .int .i64 e])).run Try.prog W = .ok (.bool false) W := by
  rw [run_neq_struct, ans_in]
  rfl
theorem ans_eql (W : World) (s : ByteArray) (n m e : Int) : (binOp .eql 44 (.agg #[.string s, .int .i64 n, .int .i64 m, .int .i64 e]) (.agg #[.string s, .int .i64 n, .int .i64 m, .int .i64 e])).run Try.prog W = .ok (.bool true) W := by
  rw [run_eql_struct, ans_in]
  rfl

end Go.Proofs.Ythlhbjnkohinmaa

/- Two engines in the statements' loops: more calls. -/
namespace Go.Proofs.Ythlhbjnkohinmaa
open Go.RowKit

/-- What is known of numbers that came in. -/
def IsInts (w : World) (a : Option Addr) (len : Nat) : Prop := len = 0 ∨ ∃ sb off, a = some ⟨sb, off, none⟩ ∧ sb < w.heap.size ∧ ∀ t, t < len → ∃ n, w.cell? ⟨sb, off + t, none⟩ = some (.int .i64 n) ∧ -9223372036854775808 ≤ n ∧ n ≤ 9223372036854775807
theorem box4 {W : World} {b : Nat} {u0 u1 u2 u3 : Value} {t : TypeId} (h : W.heap[b]? = some (.cells #[u0, u1, u2, u3] t (0, 0))) : W.cell? ⟨b, 0, none⟩ = some u0 ∧ W.cell? ⟨b, 1, none⟩ = some u1 ∧ W.cell? ⟨b, 2, none⟩ = some u2 ∧ W.cell? ⟨b, 3, none⟩ = some u3 := by
  refine ⟨?_, ?_, ?_, ?_⟩ <;> (rw [cell_of_row _ _ _ _ _ _ h]; rfl)
theorem nextF_same {X X' : PEng} (h : X'.ses = X.ses) (F : Mks) : nextF X X' F = F := by
  funext k
  unfold nextF
  rw [h, if_pos rfl]
theorem EE.sweep1 {base x y : Nat} {Bx : Boxes} {w wr : World} {X Y : PEng} {F G : Mks} (h : EE base x y w X F Y G Bx wr) {i : Nat} (hg : Fit i X) (hi : i ≤ 100000000000000) :
    Calls Try.prog 24 #[.pointer (some ⟨x, 0, none⟩)] wr fun e w' => e = .returned (.int .i64 (psweepF X).1) ∧ EE base x y w (psweepF X).2 F Y G Bx w' := by
  obtain ⟨f, g, h⟩ := h
  refine (esweep_to x X F f i wr h.one (EE.nds h).1 hg hi).mono ?_
  rintro e w' ⟨rfl, ht⟩
  rw [nextF_same (X := X) (X' := (psweepF X).2) rfl] at ht
  exact ⟨rfl, h.step1 ht⟩
theorem EE.keep1 {base x y : Nat} {Bx : Boxes} {w wr : World} {X Y : PEng} {F G : Mks} (h : EE base x y w X F Y G Bx wr) {i : Nat} (hg : Fit i X) (hi : i ≤ 100000000000000) :
    Calls Try.prog 25 #[.pointer (some ⟨x, 0, none⟩)] wr fun e w' => e = .returned (.int .i64 (keptN X 60 : Nat)) ∧ EE base x y w X F Y G Bx w' := by
  obtain ⟨f, g, h⟩ := h
  refine (ekept_to x X F f i wr h.one (EE.nds h).1 hg hi).mono ?_
  rintro e w' ⟨rfl, ht⟩
  exact ⟨rfl, h.step1 ht⟩
theorem EE.sweep2 {base x y : Nat} {Bx : Boxes} {w wr : World} {X Y : PEng} {F G : Mks} (h : EE base x y w X F Y G Bx wr) {i : Nat} (hg : Fit i Y) (hi : i ≤ 100000000000000) :
    Calls Try.prog 24 #[.pointer (some ⟨y, 0, none⟩)] wr fun e w' => e = .returned (.int .i64 (psweepF Y).1) ∧ EE base x y w X F (psweepF Y).2 G Bx w' := by
  obtain ⟨f, g, h⟩ := h
  refine (esweep_to y Y G g i wr h.two (EE.nds h).2 hg hi).mono ?_
  rintro e w' ⟨rfl, ht⟩
  rw [nextF_same (X := Y) (X' := (psweepF Y).2) rfl] at ht
  exact ⟨rfl, h.step2 ht⟩
theorem EE.keep2 {base x y : Nat} {Bx : Boxes} {w wr : World} {X Y : PEng} {F G : Mks} (h : EE base x y w X F Y G Bx wr) {i : Nat} (hg : Fit i Y) (hi : i ≤ 100000000000000) :
    Calls Try.prog 25 #[.pointer (some ⟨y, 0, none⟩)] wr fun e w' => e = .returned (.int .i64 (keptN Y 60 : Nat)) ∧ EE base x y w X F Y G Bx w' := by
  obtain ⟨f, g, h⟩ := h
  refine (ekept_to y Y G g i wr h.two (EE.nds h).2 hg hi).mono ?_
  rintro e w' ⟨rfl, ht⟩
  exact ⟨rfl, h.step2 ht⟩

end Go.Proofs.Ythlhbjnkohinmaa

/- The statement Swept, walked. -/
namespace Go.Proofs.Ythlhbjnkohinmaa
open Go.RowKit

set_option maxRecDepth 20000 in
set_option maxHeartbeats 8000000 in
theorem swept_all (w : World) (s : ByteArray) (rm : Int) (a1 a2 : Option Addr) (l1 c1 l2 c2 : Nat) (hs : s.size ≤ maxLen) (hr : -9223372036854775808 ≤ rm ∧ rm ≤ 9223372036854775807) (h1 : IsScript w a1 l1) (hl1 : l1 * 40 ≤ 140737488351232) (h2 : IsInts w a2 l2) (hl2 : l2 * 8 ≤ 140737488351232) :
    Calls Try.prog 8 #[.string s, .int .i64 rm, .slice a1 l1 c1, .slice a2 l2 c2] w fun e w' => e = .returned (.bool true) ∧ Below w.heap.size w w' := by
  have HS1 : Hid (0 < l1 → ∃ sb off, a1 = some ⟨sb, off, none⟩ ∧ sb < w.heap.size ∧ ∀ t, t < l1 → ∃ k n c s, ActAt w sb (off + t * 4) k n c s) := hid (fun h0 => h1.resolve_left (by omega))
  have HS2 : Hid (0 < l2 → ∃ sb off, a2 = some ⟨sb, off, none⟩ ∧ sb < w.heap.size ∧ ∀ t, t < l2 → ∃ n, w.cell? ⟨sb, off + t, none⟩ = some (.int .i64 n) ∧ -9223372036854775808 ≤ n ∧ n ≤ 9223372036854775807) := hid (fun h0 => h2.resolve_left (by omega))
  have HP := hid (fun W => kpick_any rm 999 W hr.1 hr.2 (by decide) (by decide))
  obtain ⟨b0, b1⟩ := kpickF_bd rm ((999 : Nat) : Int) (by decide)
  generalize kpickF rm ((999 : Nat) : Int) = pr at HP b0 b1
  have HE := hid (fun W => engine_any s (1 + pr) W hs (by omega) (by omega))
  clear h1 hr h2
  go_enter Try.func8, Try.ntmps8
  go_wp2_with fail
  go_at_call 18
  refine (HP.out _).mono ?_
  rintro e w0 ⟨rfl, rfl⟩
  go_wp2_with fail
  go_at_call 9
  refine (HE.out _).mono ?_
  rintro e w1 (⟨rfl, hfr, q1, q2, q3, q4⟩ | ⟨x, r, rfl, hn, hroom, hsrc, hread, hval⟩)
  · have HF := hid hfr
    have HQ := hid q3
    clear hfr q3 q4
    go_wp2_with fail
    go_at_call 9
    refine (HE.out _).mono ?_
    rintro e w2 (⟨rfl, hfr, _⟩ | ⟨x, r, rfl, hn, hroom, hsrc, hread, hval⟩)
    · have HF2 := hid hfr
      clear hfr
      go_wp2_with fail
      go_ret
      exact ⟨rfl, (HF.out.trans HF2.out).below (Nat.le_refl _) (by simp)⟩
    · exact (hread.not_both HQ.out).elim
  have HN := hid hn
  have HRD : Hid (r.1.2 = 1 + pr ∧ r.2.1 = s ∧ ReadAns s 0 0 (some r.2.2) ∧ r.1.1 = .bool false) := hid ⟨hroom, hsrc, hread, hval⟩
  clear hn hroom hsrc hread hval
  go_wp2_with fail
  go_at_call 9
  refine (HE.out _).mono ?_
  rintro e w2 (⟨rfl, hfr, q1, q2, q3, q4⟩ | ⟨y, r', rfl, hn, hroom, hsrc, hread, hval⟩)
  · exact (HRD.out.2.2.1.not_both q3).elim
  have er : r' = r := two_read HRD.out.1 HRD.out.2.1 HRD.out.2.2.1 HRD.out.2.2.2 hroom hsrc hread hval
  subst er
  have HST := hid (EE.start HN.out hn)
  have HF0 : Hid (Fit 0 (X0 r')) := hid (fit0 r' (by omega))
  have HR : Hid (RulesP r'.2.1 r'.2.2) := hid (by rw [hsrc]; exact read_rulesP hread)
  have HRM := hid hroom
  clear hn hroom hsrc hread hval HE HN HRD HP
  go_wp2_with fail
  go_loopw [13] (fun t wr => ∃ (k : Nat) (X : PEng) (F : Mks) (Y : PEng), k ≤ l1 ∧ t = .int .i64 k ∧ EE w0.heap.size x y w0 X F Y F [] wr ∧ Fit (2 * k) X ∧ Fit (2 * k) Y ∧ SwEq X Y ∧ X.src = r') (fun t _ => l1 - (intOf t).toNat)
  case atStart => exact ⟨0, X0 r', _, X0 r', Nat.zero_le _, rfl, HST.out, HF0.out, HF0.out, .refl _, rfl⟩
  case round =>
    obtain ⟨k, X, F, Y, hk, rfl, hL, hfx, hfy, hsq, hsr⟩ := hrel
    have HL := hid hL
    have HFX := hid hfx
    have HFY := hid hfy
    have HSQ := hid hsq
    have HSR := hid hsr
    have HRX : Hid (RulesP X.src.2.1 X.src.2.2) := hid (by rw [hsr]; exact HR.out)
    clear hL hfx hfy hsq hsr HST HF0
    by_cases hlt : k < l1
    · obtain ⟨sb, off, rfl, hsb, hscr⟩ := HS1.out (by omega)
      obtain ⟨kk, b, c, s', c0, c1', c2', c3', hs'⟩ := hscr k hlt
      clear hscr HS1
      have h63 : s'.size < 9223372036854775808 := Nat.lt_of_le_of_lt hs' (by decide)
      by_cases hl : k < l2
      · obtain ⟨sv, vff, rfl, hsv, hvs⟩ := HS2.out (by omega)
        obtain ⟨vn, cv, hv1, hv2⟩ := hvs k hl
        have HPK := hid (fun W => kpick_any vn 2 W hv1 hv2 (by decide) (by decide))
        have dv := (HL.out.below.cell (p := ⟨sv, vff + k, none⟩) hsv).trans cv
        generalize kpickF vn ((2 : Nat) : Int) = pv at HPK
        clear hvs cv hv1 hv2 HS2
        by_cases hp1 : pv = 1
        · subst hp1
          have HC0 := hid (HL.out.sweep2 HFY.out (by omega))
          have HFY1 : Hid (Fit (2 * k + 1) (psweepF Y).2) := hid HFY.out.sweep
          have HSQ1 : Hid (SwEq X (psweepF Y).2) := hid (HSQ.out.sweep HFY.out)
          generalize (psweepF Y).2 = Y1 at HC0 HFY1 HSQ1
          go_wp2_with fail
          go_at_call 18
          refine (HPK.out _).mono ?_
          rintro e w3 ⟨rfl, rfl⟩
          go_wp2_with fail
          go_at_call 24
          refine HC0.out.mono ?_
          rintro e w4 ⟨rfl, ht⟩
          have HE1 := hid ht
          clear ht HC0 dv HPK
          have hBe := HE1.out.below
          have d0 := (hBe.cell (p := ⟨sb, off + k * 4, none⟩) hsb).trans c0
          have d1 := (hBe.cell (p := ⟨sb, off + k * 4 + 1, none⟩) hsb).trans c1'
          have d2 := (hBe.cell (p := ⟨sb, off + k * 4 + 2, none⟩) hsb).trans c2'
          have d3 := (hBe.cell (p := ⟨sb, off + k * 4 + 3, none⟩) hsb).trans c3'
          by_cases k9 : kk = 9
          · subst k9
            clear hBe d1 d2 d3
            go_wp2_with fail
            go_roundw
            case rel => exact ⟨k + 1, X, F, Y1, by omega, by go_num, HE1.out, HFX.out.mono (by omega), HFY1.out.mono (by omega), HSQ1.out, HSR.out⟩
            case measure => simp [intOf]; omega
          by_cases k10 : kk = 10
          · subst k10
            clear hBe d1 d2 d3
            go_wp2_with fail
            go_roundw
            case rel => exact ⟨k + 1, X, F, Y1, by omega, by go_num, HE1.out, HFX.out.mono (by omega), HFY1.out.mono (by omega), HSQ1.out, HSR.out⟩
            case measure => simp [intOf]; omega
          have HSA := hid (HSQ1.out.act HFX.out HFY1.out F kk b c s' HRX.out k9 k10)
          have q9 : (kk == 9) = false := by simpa using k9
          have q10 : (kk == 10) = false := by simpa using k10
          have HRY : Hid (RulesP Y1.src.2.1 Y1.src.2.2) := hid (by rw [HSQ1.out.src]; exact HRX.out)
          have HC := hid (HE1.out.act1 HFX.out (by omega) HRX.out kk b c s' h63)
          have HFXN := hid (HFX.out.act F kk b c s' HRX.out)
          have HFYN := hid (HFY1.out.act F kk b c s' HRY.out)
          have HSRN : Hid ((pact X F kk b c s').2.1.src = r') := hid (by rw [pact_src HFX.out]; exact HSR.out)
          generalize hPA : pact X F kk b c s' = pa at HC HSA HFXN HSRN
          clear k9 k10 hBe hPA
          go_wp2_with fail
          go_at_call 16
          refine HC.out.mono ?_
          rintro e w5 ⟨rfl, ht⟩
          have HT := hid (ht.alloc #[.string pa.1.1, .int .i64 pa.1.2.1, .int .i64 pa.1.2.2.1, .int .i64 pa.1.2.2.2] 44)
          have hBe2 := HT.out.below
          have g0 := (hBe2.cell (p := ⟨sb, off + k * 4, none⟩) hsb).trans c0
          have g1 := (hBe2.cell (p := ⟨sb, off + k * 4 + 1, none⟩) hsb).trans c1'
          have g2 := (hBe2.cell (p := ⟨sb, off + k * 4 + 2, none⟩) hsb).trans c2'
          have g3 := (hBe2.cell (p := ⟨sb, off + k * 4 + 3, none⟩) hsb).trans c3'
          have HC2 := hid (HT.out.act2 HFY1.out (by omega) HRY.out kk b c s' h63)
          generalize hPB : pact Y1 F kk b c s' = pb at HC2 HSA HFYN
          rw [HSA.out.1, HSA.out.2.2] at HC2
          have HSN := hid HSA.out.2.1
          clear ht HC d0 d1 d2 d3 hBe2 hPB HSA
          go_wp2_with fail
          go_at_call 16
          refine HC2.out.mono ?_
          rintro e w6 ⟨rfl, ht⟩
          have b1 := ht.box (b := (w5.heap.size, #[.string pa.1.1, .int .i64 pa.1.2.1, .int .i64 pa.1.2.2.1, .int .i64 pa.1.2.2.2], 44)) (by simp)
          have hb1 := lt_of_block b1
          have b1' : (w6.alloc (.cells #[.string pa.1.1, .int .i64 pa.1.2.1, .int .i64 pa.1.2.2.1, .int .i64 pa.1.2.2.2] 44)).heap[w5.heap.size]? = some (.cells #[.string pa.1.1, .int .i64 pa.1.2.1, .int .i64 pa.1.2.2.1, .int .i64 pa.1.2.2.2] 44 (0, 0)) := (Below.heap_alloc _ _ _ hb1).trans b1
          have b2' : (w6.alloc (.cells #[.string pa.1.1, .int .i64 pa.1.2.1, .int .i64 pa.1.2.2.1, .int .i64 pa.1.2.2.2] 44)).heap[w6.heap.size]? = some (.cells #[.string pa.1.1, .int .i64 pa.1.2.1, .int .i64 pa.1.2.2.1, .int .i64 pa.1.2.2.2] 44 (0, 0)) := heap_alloc_new w6 _
          obtain ⟨p0, p1, p2, p3⟩ := box4 b1'
          obtain ⟨u0, u1, u2, u3⟩ := box4 b2'
          have hq := ans_neq (w6.alloc (.cells #[.string pa.1.1, .int .i64 pa.1.2.1, .int .i64 pa.1.2.2.1, .int .i64 pa.1.2.2.2] 44)) pa.1.1 pa.1.2.1 pa.1.2.2.1 pa.1.2.2.2
          have hq2 := ans_guard (w6.alloc (.cells #[.string pa.1.1, .int .i64 pa.1.2.1, .int .i64 pa.1.2.2.1, .int .i64 pa.1.2.2.2] 44)) .neq
          have HEN := hid ((ht.less (Bx' := []) (by simp)).quiet (fr_alloc w6 (.cells #[.string pa.1.1, .int .i64 pa.1.2.1, .int .i64 pa.1.2.2.1, .int .i64 pa.1.2.2.2] 44)))
          clear ht HC2 g0 g1 g2 g3 b1 b1' b2' HT
          go_wp2_with fail
          go_roundw
          case rel => exact ⟨k + 1, pa.2.1, pa.2.2, pb.2.1, by omega, by go_num, HEN.out, HFXN.out.mono (by omega), HFYN.out.mono (by omega), HSN.out, HSRN.out⟩
          case measure => simp [intOf]; omega
        · have qv : (pv == 1) = false := by simpa using hp1
          have HE1 := HL
          have HFY1 : Hid (Fit (2 * k + 1) Y) := hid (HFY.out.mono (by omega))
          have HSQ1 := HSQ
          clear hp1
          go_wp2_with fail
          go_at_call 18
          refine (HPK.out _).mono ?_
          rintro e w3 ⟨rfl, rfl⟩
          clear dv HPK
          have hBe := HE1.out.below
          have d0 := (hBe.cell (p := ⟨sb, off + k * 4, none⟩) hsb).trans c0
          have d1 := (hBe.cell (p := ⟨sb, off + k * 4 + 1, none⟩) hsb).trans c1'
          have d2 := (hBe.cell (p := ⟨sb, off + k * 4 + 2, none⟩) hsb).trans c2'
          have d3 := (hBe.cell (p := ⟨sb, off + k * 4 + 3, none⟩) hsb).trans c3'
          by_cases k9 : kk = 9
          · subst k9
            clear hBe d1 d2 d3
            go_wp2_with fail
            go_roundw
            case rel => exact ⟨k + 1, X, F, Y, by omega, by go_num, HE1.out, HFX.out.mono (by omega), HFY1.out.mono (by omega), HSQ1.out, HSR.out⟩
            case measure => simp [intOf]; omega
          by_cases k10 : kk = 10
          · subst k10
            clear hBe d1 d2 d3
            go_wp2_with fail
            go_roundw
            case rel => exact ⟨k + 1, X, F, Y, by omega, by go_num, HE1.out, HFX.out.mono (by omega), HFY1.out.mono (by omega), HSQ1.out, HSR.out⟩
            case measure => simp [intOf]; omega
          have HSA := hid (HSQ1.out.act HFX.out HFY1.out F kk b c s' HRX.out k9 k10)
          have q9 : (kk == 9) = false := by simpa using k9
          have q10 : (kk == 10) = false := by simpa using k10
          have HRY : Hid (RulesP Y.src.2.1 Y.src.2.2) := hid (by rw [HSQ1.out.src]; exact HRX.out)
          have HC := hid (HE1.out.act1 HFX.out (by omega) HRX.out kk b c s' h63)
          have HFXN := hid (HFX.out.act F kk b c s' HRX.out)
          have HFYN := hid (HFY1.out.act F kk b c s' HRY.out)
          have HSRN : Hid ((pact X F kk b c s').2.1.src = r') := hid (by rw [pact_src HFX.out]; exact HSR.out)
          generalize hPA : pact X F kk b c s' = pa at HC HSA HFXN HSRN
          clear k9 k10 hBe hPA
          go_wp2_with fail
          go_at_call 16
          refine HC.out.mono ?_
          rintro e w5 ⟨rfl, ht⟩
          have HT := hid (ht.alloc #[.string pa.1.1, .int .i64 pa.1.2.1, .int .i64 pa.1.2.2.1, .int .i64 pa.1.2.2.2] 44)
          have hBe2 := HT.out.below
          have g0 := (hBe2.cell (p := ⟨sb, off + k * 4, none⟩) hsb).trans c0
          have g1 := (hBe2.cell (p := ⟨sb, off + k * 4 + 1, none⟩) hsb).trans c1'
          have g2 := (hBe2.cell (p := ⟨sb, off + k * 4 + 2, none⟩) hsb).trans c2'
          have g3 := (hBe2.cell (p := ⟨sb, off + k * 4 + 3, none⟩) hsb).trans c3'
          have HC2 := hid (HT.out.act2 HFY1.out (by omega) HRY.out kk b c s' h63)
          generalize hPB : pact Y F kk b c s' = pb at HC2 HSA HFYN
          rw [HSA.out.1, HSA.out.2.2] at HC2
          have HSN := hid HSA.out.2.1
          clear ht HC d0 d1 d2 d3 hBe2 hPB HSA
          go_wp2_with fail
          go_at_call 16
          refine HC2.out.mono ?_
          rintro e w6 ⟨rfl, ht⟩
          have b1 := ht.box (b := (w5.heap.size, #[.string pa.1.1, .int .i64 pa.1.2.1, .int .i64 pa.1.2.2.1, .int .i64 pa.1.2.2.2], 44)) (by simp)
          have hb1 := lt_of_block b1
          have b1' : (w6.alloc (.cells #[.string pa.1.1, .int .i64 pa.1.2.1, .int .i64 pa.1.2.2.1, .int .i64 pa.1.2.2.2] 44)).heap[w5.heap.size]? = some (.cells #[.string pa.1.1, .int .i64 pa.1.2.1, .int .i64 pa.1.2.2.1, .int .i64 pa.1.2.2.2] 44 (0, 0)) := (Below.heap_alloc _ _ _ hb1).trans b1
          have b2' : (w6.alloc (.cells #[.string pa.1.1, .int .i64 pa.1.2.1, .int .i64 pa.1.2.2.1, .int .i64 pa.1.2.2.2] 44)).heap[w6.heap.size]? = some (.cells #[.string pa.1.1, .int .i64 pa.1.2.1, .int .i64 pa.1.2.2.1, .int .i64 pa.1.2.2.2] 44 (0, 0)) := heap_alloc_new w6 _
          obtain ⟨p0, p1, p2, p3⟩ := box4 b1'
          obtain ⟨u0, u1, u2, u3⟩ := box4 b2'
          have hq := ans_neq (w6.alloc (.cells #[.string pa.1.1, .int .i64 pa.1.2.1, .int .i64 pa.1.2.2.1, .int .i64 pa.1.2.2.2] 44)) pa.1.1 pa.1.2.1 pa.1.2.2.1 pa.1.2.2.2
          have hq2 := ans_guard (w6.alloc (.cells #[.string pa.1.1, .int .i64 pa.1.2.1, .int .i64 pa.1.2.2.1, .int .i64 pa.1.2.2.2] 44)) .neq
          have HEN := hid ((ht.less (Bx' := []) (by simp)).quiet (fr_alloc w6 (.cells #[.string pa.1.1, .int .i64 pa.1.2.1, .int .i64 pa.1.2.2.1, .int .i64 pa.1.2.2.2] 44)))
          clear ht HC2 g0 g1 g2 g3 b1 b1' b2' HT
          go_wp2_with fail
          go_roundw
          case rel => exact ⟨k + 1, pa.2.1, pa.2.2, pb.2.1, by omega, by go_num, HEN.out, HFXN.out.mono (by omega), HFYN.out.mono (by omega), HSN.out, HSRN.out⟩
          case measure => simp [intOf]; omega
      · have HE1 := HL
        have HFY1 : Hid (Fit (2 * k + 1) Y) := hid (HFY.out.mono (by omega))
        have HSQ1 := HSQ
        have ql : ¬ (k : Int) < (l2 : Int) := by omega
        have hBe := HE1.out.below
        have d0 := (hBe.cell (p := ⟨sb, off + k * 4, none⟩) hsb).trans c0
        have d1 := (hBe.cell (p := ⟨sb, off + k * 4 + 1, none⟩) hsb).trans c1'
        have d2 := (hBe.cell (p := ⟨sb, off + k * 4 + 2, none⟩) hsb).trans c2'
        have d3 := (hBe.cell (p := ⟨sb, off + k * 4 + 3, none⟩) hsb).trans c3'
        by_cases k9 : kk = 9
        · subst k9
          clear hBe d1 d2 d3
          go_wp2_with fail
          go_roundw
          case rel => exact ⟨k + 1, X, F, Y, by omega, by go_num, HE1.out, HFX.out.mono (by omega), HFY1.out.mono (by omega), HSQ1.out, HSR.out⟩
          case measure => simp [intOf]; omega
        by_cases k10 : kk = 10
        · subst k10
          clear hBe d1 d2 d3
          go_wp2_with fail
          go_roundw
          case rel => exact ⟨k + 1, X, F, Y, by omega, by go_num, HE1.out, HFX.out.mono (by omega), HFY1.out.mono (by omega), HSQ1.out, HSR.out⟩
          case measure => simp [intOf]; omega
        have HSA := hid (HSQ1.out.act HFX.out HFY1.out F kk b c s' HRX.out k9 k10)
        have q9 : (kk == 9) = false := by simpa using k9
        have q10 : (kk == 10) = false := by simpa using k10
        have HRY : Hid (RulesP Y.src.2.1 Y.src.2.2) := hid (by rw [HSQ1.out.src]; exact HRX.out)
        have HC := hid (HE1.out.act1 HFX.out (by omega) HRX.out kk b c s' h63)
        have HFXN := hid (HFX.out.act F kk b c s' HRX.out)
        have HFYN := hid (HFY1.out.act F kk b c s' HRY.out)
        have HSRN : Hid ((pact X F kk b c s').2.1.src = r') := hid (by rw [pact_src HFX.out]; exact HSR.out)
        generalize hPA : pact X F kk b c s' = pa at HC HSA HFXN HSRN
        clear k9 k10 hBe hPA
        go_wp2_with fail
        go_at_call 16
        refine HC.out.mono ?_
        rintro e w5 ⟨rfl, ht⟩
        have HT := hid (ht.alloc #[.string pa.1.1, .int .i64 pa.1.2.1, .int .i64 pa.1.2.2.1, .int .i64 pa.1.2.2.2] 44)
        have hBe2 := HT.out.below
        have g0 := (hBe2.cell (p := ⟨sb, off + k * 4, none⟩) hsb).trans c0
        have g1 := (hBe2.cell (p := ⟨sb, off + k * 4 + 1, none⟩) hsb).trans c1'
        have g2 := (hBe2.cell (p := ⟨sb, off + k * 4 + 2, none⟩) hsb).trans c2'
        have g3 := (hBe2.cell (p := ⟨sb, off + k * 4 + 3, none⟩) hsb).trans c3'
        have HC2 := hid (HT.out.act2 HFY1.out (by omega) HRY.out kk b c s' h63)
        generalize hPB : pact Y F kk b c s' = pb at HC2 HSA HFYN
        rw [HSA.out.1, HSA.out.2.2] at HC2
        have HSN := hid HSA.out.2.1
        clear ht HC d0 d1 d2 d3 hBe2 hPB HSA
        go_wp2_with fail
        go_at_call 16
        refine HC2.out.mono ?_
        rintro e w6 ⟨rfl, ht⟩
        have b1 := ht.box (b := (w5.heap.size, #[.string pa.1.1, .int .i64 pa.1.2.1, .int .i64 pa.1.2.2.1, .int .i64 pa.1.2.2.2], 44)) (by simp)
        have hb1 := lt_of_block b1
        have b1' : (w6.alloc (.cells #[.string pa.1.1, .int .i64 pa.1.2.1, .int .i64 pa.1.2.2.1, .int .i64 pa.1.2.2.2] 44)).heap[w5.heap.size]? = some (.cells #[.string pa.1.1, .int .i64 pa.1.2.1, .int .i64 pa.1.2.2.1, .int .i64 pa.1.2.2.2] 44 (0, 0)) := (Below.heap_alloc _ _ _ hb1).trans b1
        have b2' : (w6.alloc (.cells #[.string pa.1.1, .int .i64 pa.1.2.1, .int .i64 pa.1.2.2.1, .int .i64 pa.1.2.2.2] 44)).heap[w6.heap.size]? = some (.cells #[.string pa.1.1, .int .i64 pa.1.2.1, .int .i64 pa.1.2.2.1, .int .i64 pa.1.2.2.2] 44 (0, 0)) := heap_alloc_new w6 _
        obtain ⟨p0, p1, p2, p3⟩ := box4 b1'
        obtain ⟨u0, u1, u2, u3⟩ := box4 b2'
        have hq := ans_neq (w6.alloc (.cells #[.string pa.1.1, .int .i64 pa.1.2.1, .int .i64 pa.1.2.2.1, .int .i64 pa.1.2.2.2] 44)) pa.1.1 pa.1.2.1 pa.1.2.2.1 pa.1.2.2.2
        have hq2 := ans_guard (w6.alloc (.cells #[.string pa.1.1, .int .i64 pa.1.2.1, .int .i64 pa.1.2.2.1, .int .i64 pa.1.2.2.2] 44)) .neq
        have HEN := hid ((ht.less (Bx' := []) (by simp)).quiet (fr_alloc w6 (.cells #[.string pa.1.1, .int .i64 pa.1.2.1, .int .i64 pa.1.2.2.1, .int .i64 pa.1.2.2.2] 44)))
        clear ht HC2 g0 g1 g2 g3 b1 b1' b2' HT
        go_wp2_with fail
        go_roundw
        case rel => exact ⟨k + 1, pa.2.1, pa.2.2, pb.2.1, by omega, by go_num, HEN.out, HFXN.out.mono (by omega), HFYN.out.mono (by omega), HSN.out, HSRN.out⟩
        case measure => simp [intOf]; omega
    · have hkl : k = l1 := by omega
      subst hkl
      have HC1 := hid (HL.out.sweep1 HFX.out (by omega))
      have HX1 : Hid (Fit (2 * k + 1) (psweepF X).2) := hid HFX.out.sweep
      have HY1 : Hid (Fit (2 * k + 1) (psweepF Y).2) := hid HFY.out.sweep
      have HKE : Hid (keptN (psweepF Y).2 60 = keptN (psweepF X).2 60) := hid (HSQ.out.kept 60)
      have hkr := HX1.out.kept
      have hr9 := HX1.out.room
      have HRM2 : Hid ((psweepF X).2.room = 1 + pr) := hid (by
        have e1 : (psweepF X).2.src = X.src := rfl
        unfold PEng.room
        rw [e1, HSR.out]
        exact HRM.out)
      rw [HRM2.out] at hkr hr9
      generalize (psweepF X).2 = X1 at HC1 HX1 HKE hkr HRM2
      go_wp2_with fail
      go_at_call 24
      refine HC1.out.mono ?_
      rintro e w3 ⟨rfl, ht⟩
      have HC2 := hid (ht.sweep2 HFY.out (by omega))
      generalize (psweepF Y).2 = Y1 at HC2 HY1 HKE
      clear ht HC1
      go_wp2_with fail
      go_at_call 24
      refine HC2.out.mono ?_
      rintro e w4 ⟨rfl, ht⟩
      have HC3 := hid (ht.keep1 HX1.out (by omega))
      clear ht HC2
      go_wp2_with fail
      go_at_call 25
      refine HC3.out.mono ?_
      rintro e w5 ⟨rfl, ht⟩
      have HC4 := hid (ht.keep2 HY1.out (by omega))
      rw [HKE.out] at HC4
      generalize keptN X1 60 = kn at HC4 hkr
      clear ht HC3
      go_wp2_with fail
      go_at_call 25
      refine HC4.out.mono ?_
      rintro e w6 ⟨rfl, ht⟩
      have HBE := hid ht.below
      clear ht HC4
      go_wp2_with fail
      go_ret
      exact ⟨rfl, HBE.out⟩

end Go.Proofs.Ythlhbjnkohinmaa
