import Derived.Test.YthlhbjnkohinmaaPart19
import Derived.Laws.StructEq
import Derived.Test.YthlhbjnkohinmaaPart22
import Derived.Test.YthlhbjnkohinmaaPart21
/- Answers compared. -/
namespace Go.Proofs.Ythlhbjnkohinmaa
open Go.RowKit

theorem ans_guard (W : World) (op : BinOp) (x y : Operand) (xs ys : Array Value) : (eqGuard op 44 x y (.agg xs) (.agg ys)).run Try.prog W = .ok () W := run_eqGuard_agg W op _ x y xs ys (by kernel_rfl)
set_option maxRecDepth 20000 in
theorem ans_in (W : World) (s : ByteArray) (n m e : Int) : (Op.equalIn 10000 44 (.agg #[.string s, .int .i64 n, .int .i64 m, .int .i64 e]) (.agg #[.string s, .int .i64 n, .int .i64 m, .int .i64 e])).run Try.prog W = .ok true W := by
  rw [run_equalIn_agg W 9999 _ _ _ (by kernel_rfl) (by kernel_rfl)]
  unfold Program.fieldsOf
  rw [Try.underlying44]
  simp only []
  go_simp
theorem ans_neq (W : World) (s : ByteArray) (n m e : Int) : (binOp .neq 44 (.agg #[.string s, .int .i64 n, .int .i64 m, .int .i64 e]) (.agg #[.string s, .int .i64 n, .int .i64 m, .int .i64 e])).run Try.prog W = .ok (.bool false) W := by
  rw [run_neq_struct, ans_in]
  rfl
theorem ans_eql (W : World) (s : ByteArray) (n m e : Int) : (binOp .eql 44 (.agg #[.string s, .int .i64 n, .int .i64 m, .int .i64 e]) (.agg #[.string s, .int .i64 n, .int .i64 m, .int .i64 e])).run Try.prog W = .ok (.bool true) W := by
  rw [run_eql_struct, ans_in]
  rfl

end Go.Proofs.Ythlhbjnkohinmaa

/- Two engines in the statements' loops: more calls. -/
namespace Go.Proofs.Ythlhbjnkohinmaa
open Go.RowKit

/-- What is known of numbers that came in. -/
def IsInts (w : World) (a : Option Addr) (len : Nat) : Prop := len = 0 ∨ ∃ sb off, a = some ⟨sb, off, none⟩ ∧ sb < w.heap.size ∧ ∀ t, t < len → ∃ n, w.cell? ⟨sb, off + t, none⟩ = some (.int .i64 n) ∧ -9223372036854775808 ≤ n ∧ n ≤ 9223372036854775807
theorem box4 {W : World} {b : Nat} {u0 u1 u2 u3 : Value} {t : TypeId} (h : W.heap[b]? = some (.cells #[u0, u1, u2, u3] t (0, 0))) : W.cell? ⟨b, 0, none⟩ = some u0 ∧ W.cell? ⟨b, 1, none⟩ = some u1 ∧ W.cell? ⟨b, 2, none⟩ = some u2 ∧ W.cell? ⟨b, 3, none⟩ = some u3 := by
  refine ⟨?_, ?_, ?_, ?_⟩ <;> (rw [cell_of_row _ _ _ _ _ _ h]; rfl)
theorem nextF_same {X X' : PEng} (h : X'.ses = X.ses) (F : Mks) : nextF X X' F = F := by
  funext k
  unfold nextF
  rw [h, if_pos rfl]
theorem EE.sweep1 {base x y : Nat} {Bx : Boxes} {w wr : World} {X Y : PEng} {F G : Mks} (h : EE base x y w X F Y G Bx wr) {i : Nat} (hg : Fit i X) (hi : i ≤ 100000000000000) :
    Calls Try.prog 24 #[.pointer (some ⟨x, 0, none⟩)] wr fun e w' => e = .returned (.int .i64 (psweepF X).1) ∧ EE base x y w (psweepF X).2 F Y G Bx w' := by
  obtain ⟨f, g, h⟩ := h
  refine (esweep_to x X F f i wr h.one (EE.nds h).1 hg hi).mono ?_
  rintro e w' ⟨rfl, ht⟩
  rw [nextF_same (X := X) (X' := (psweepF X).2) rfl] at ht
  exact ⟨rfl, h.step1 ht⟩
theorem EE.keep1 {base x y : Nat} {Bx : Boxes} {w wr : World} {X Y : PEng} {F G : Mks} (h : EE base x y w X F Y G Bx wr) {i : Nat} (hg : Fit i X) (hi : i ≤ 100000000000000) :
    Calls Try.prog 25 #[.pointer (some ⟨x, 0, none⟩)] wr fun e w' => e = .returned (.int .i64 (keptN X 60 : Nat)) ∧ EE base x y w X F Y G Bx w' := by
  obtain ⟨f, g, h⟩ := h
  refine (ekept_to x X F f i wr h.one (EE.nds h).1 hg hi).mono ?_
  rintro e w' ⟨rfl, ht⟩
  exact ⟨rfl, h.step1 ht⟩
theorem EE.sweep2 {base x y : Nat} {Bx : Boxes} {w wr : World} {X Y : PEng} {F G : Mks} (h : EE base x y w X F Y G Bx wr) {i : Nat} (hg : Fit i Y) (hi : i ≤ 100000000000000) :
    Calls Try.prog 24 #[.pointer (some ⟨y, 0, none⟩)] wr fun e w' => e = .returned (.int .i64 (psweepF Y).1) ∧ EE base x y w X F (psweepF Y).2 G Bx w' := by
  obtain ⟨f, g, h⟩ := h
  refine (esweep_to y Y G g i wr h.two (EE.nds h).2 hg hi).mono ?_
  rintro e w' ⟨rfl, ht⟩
  rw [nextF_same (X := Y) (X' := (psweepF Y).2) rfl] at ht
  exact ⟨rfl, h.step2 ht⟩
theorem EE.keep2 {base x y : Nat} {Bx : Boxes} {w wr : World} {X Y : PEng} {F G : Mks} (h : EE base x y w X F Y G Bx wr) {i : Nat} (hg : Fit i Y) (hi : i ≤ 100000000000000) :
    Calls Try.prog 25 #[.pointer (some ⟨y, 0, none⟩)] wr fun e w' => e = .returned (.int .i64 (keptN Y 60 : Nat)) ∧ EE base x y w X F Y G Bx w' := by
  obtain ⟨f, g, h⟩ := h
  refine (ekept_to y Y G g i wr h.two (EE.nds h).2 hg hi).mono ?_
  rintro e w' ⟨rfl, ht⟩
  exact ⟨rfl, h.step2 ht⟩

end Go.Proofs.Ythlhbjnkohinmaa

/- The statement Steps, walked. -/
namespace Go.Proofs.Ythlhbjnkohinmaa
open Go.RowKit

set_option maxRecDepth 20000 in
set_option maxHeartbeats 4000000 in
theorem steps_all (w : World) (s : ByteArray) (a1 : Option Addr) (l1 c1 : Nat) (ss n m : Int) (hs : s.size ≤ maxLen) (h1 : IsScript w a1 l1) (hl1 : l1 * 40 ≤ 140737488351232) (hn : -9223372036854775808 ≤ n ∧ n ≤ 9223372036854775807) (hm : -9223372036854775808 ≤ m ∧ m ≤ 9223372036854775807) :
    Calls Try.prog 5 #[.string s, .slice a1 l1 c1, .int .i64 ss, .int .i64 n, .int .i64 m] w fun e w' => e = .returned (.bool true) ∧ Below w.heap.size w w' := by
  have HS1 : Hid (0 < l1 → ∃ sb off, a1 = some ⟨sb, off, none⟩ ∧ sb < w.heap.size ∧ ∀ t, t < l1 → ∃ k n c s, ActAt w sb (off + t * 4) k n c s) := hid (fun h0 => h1.resolve_left (by omega))
  have HPN := hid (fun W => kpick_any n 40 W hn.1 hn.2 (by decide) (by decide))
  have HPM := hid (fun W => kpick_any m 40 W hm.1 hm.2 (by decide) (by decide))
  obtain ⟨n0, n1⟩ := kpickF_bd n ((40 : Nat) : Int) (by decide)
  obtain ⟨m0, m1⟩ := kpickF_bd m ((40 : Nat) : Int) (by decide)
  obtain ⟨pn, hpn⟩ : ∃ pn : Nat, kpickF n ((40 : Nat) : Int) = (pn : Int) := ⟨(kpickF n ((40 : Nat) : Int)).toNat, by omega⟩
  obtain ⟨pm, hpm⟩ : ∃ pm : Nat, kpickF m ((40 : Nat) : Int) = (pm : Int) := ⟨(kpickF m ((40 : Nat) : Int)).toNat, by omega⟩
  rw [hpn] at HPN n0 n1
  rw [hpm] at HPM m0 m1
  have HE := hid (fun W => engine_any s 999 W hs (by decide) (by decide))
  clear h1 hn hm hpn hpm
  go_enter Try.func5, Try.ntmps5
  go_wp2_with fail
  go_at_call 9
  refine (HE.out _).mono ?_
  rintro e w1 (⟨rfl, hfr, q1, q2, q3, q4⟩ | ⟨x, r, rfl, hn, hroom, hsrc, hread, hval⟩)
  · have HF := hid hfr
    have HQ := hid q3
    clear hfr q3 q4
    go_wp2_with fail
    go_at_call 9
    refine (HE.out _).mono ?_
    rintro e w2 (⟨rfl, hfr, _⟩ | ⟨x, r, rfl, hn, hroom, hsrc, hread, hval⟩)
    · have HF2 := hid hfr
      clear hfr
      go_wp2_with fail
      go_ret
      exact ⟨rfl, (HF.out.trans HF2.out).below (Nat.le_refl _) (by simp)⟩
    · exact (hread.not_both HQ.out).elim
  have HN := hid hn
  have HRD : Hid (r.1.2 = 999 ∧ r.2.1 = s ∧ ReadAns s 0 0 (some r.2.2) ∧ r.1.1 = .bool false) := hid ⟨hroom, hsrc, hread, hval⟩
  clear hn hroom hsrc hread hval
  go_wp2_with fail
  go_at_call 9
  refine (HE.out _).mono ?_
  rintro e w2 (⟨rfl, hfr, q1, q2, q3, q4⟩ | ⟨y, r', rfl, hn, hroom, hsrc, hread, hval⟩)
  · exact (HRD.out.2.2.1.not_both q3).elim
  have er : r' = r := two_read HRD.out.1 HRD.out.2.1 HRD.out.2.2.1 HRD.out.2.2.2 hroom hsrc hread hval
  subst er
  have HST := hid (EE.start HN.out hn)
  have HF0 : Hid (Fit 0 (X0 r')) := hid (fit0 r' (by omega))
  have HR : Hid (RulesP r'.2.1 r'.2.2) := hid (by rw [hsrc]; exact read_rulesP hread)
  clear hn hroom hsrc hread hval HE HN HRD
  go_wp2_with fail
  go_loopw [15] (fun t wr => ∃ (k : Nat) (X : PEng) (F : Mks), k ≤ l1 ∧ t = .int .i64 k ∧ EE w.heap.size x y w X F X F [] wr ∧ Fit k X ∧ X.src = r') (fun t _ => l1 - (intOf t).toNat)
  case atStart => exact ⟨0, X0 r', _, Nat.zero_le _, rfl, HST.out, HF0.out, rfl⟩
  case round =>
    obtain ⟨k, X, F, hk, rfl, hL, hfit, hsr⟩ := hrel
    have HL := hid hL
    have HFI := hid hfit
    have HSR := hid hsr
    have HRX : Hid (RulesP X.src.2.1 X.src.2.2) := hid (by rw [hsr]; exact HR.out)
    clear hL hfit hsr HST HF0
    by_cases hlt : k < l1
    · obtain ⟨sb, off, rfl, hsb, hscr⟩ := HS1.out (by omega)
      obtain ⟨kk, b, c, s', c0, c1', c2', c3', hs'⟩ := hscr k hlt
      clear hscr HS1
      have hBe := HL.out.below
      have d0 := (hBe.cell (p := ⟨sb, off + k * 4, none⟩) hsb).trans c0
      have d1 := (hBe.cell (p := ⟨sb, off + k * 4 + 1, none⟩) hsb).trans c1'
      have d2 := (hBe.cell (p := ⟨sb, off + k * 4 + 2, none⟩) hsb).trans c2'
      have d3 := (hBe.cell (p := ⟨sb, off + k * 4 + 3, none⟩) hsb).trans c3'
      have h63 : s'.size < 9223372036854775808 := Nat.lt_of_le_of_lt hs' (by decide)
      have HC := hid (HL.out.act1 HFI.out (by omega) HRX.out kk b c s' h63)
      generalize hPA : pact X F kk b c s' = pa at HC
      have HPA := hid hPA
      clear hPA hBe hs'
      go_wp2_with fail
      go_at_call 16
      refine HC.out.mono ?_
      rintro e w3 ⟨rfl, ht⟩
      have HT := hid (ht.alloc #[.string pa.1.1, .int .i64 pa.1.2.1, .int .i64 pa.1.2.2.1, .int .i64 pa.1.2.2.2] 44)
      have hBe2 := HT.out.below
      have hrm3 := ht.room
      have g0 := (hBe2.cell (p := ⟨sb, off + k * 4, none⟩) hsb).trans c0
      have g1 := (hBe2.cell (p := ⟨sb, off + k * 4 + 1, none⟩) hsb).trans c1'
      have g2 := (hBe2.cell (p := ⟨sb, off + k * 4 + 2, none⟩) hsb).trans c2'
      have g3 := (hBe2.cell (p := ⟨sb, off + k * 4 + 3, none⟩) hsb).trans c3'
      have hsb3 : sb ≠ w3.heap.size := by omega
      have HC2 := hid (HT.out.act2 HFI.out (by omega) HRX.out kk b c s' h63)
      rw [HPA.out] at HC2
      clear ht HC d0 d1 d2 d3 hBe2
      go_wp2_with fail
      go_at_call 16
      refine HC2.out.mono ?_
      rintro e w4 ⟨rfl, ht⟩
      have HT2 := hid ht
      have b1 := ht.box (b := (w3.heap.size, #[.string pa.1.1, .int .i64 pa.1.2.1, .int .i64 pa.1.2.2.1, .int .i64 pa.1.2.2.2], 44)) (by simp)
      have hb1 := lt_of_block b1
      have b1' : (w4.alloc (.cells #[.string pa.1.1, .int .i64 pa.1.2.1, .int .i64 pa.1.2.2.1, .int .i64 pa.1.2.2.2] 44)).heap[w3.heap.size]? = some (.cells #[.string pa.1.1, .int .i64 pa.1.2.1, .int .i64 pa.1.2.2.1, .int .i64 pa.1.2.2.2] 44 (0, 0)) := (Below.heap_alloc _ _ _ hb1).trans b1
      have b2' : (w4.alloc (.cells #[.string pa.1.1, .int .i64 pa.1.2.1, .int .i64 pa.1.2.2.1, .int .i64 pa.1.2.2.2] 44)).heap[w4.heap.size]? = some (.cells #[.string pa.1.1, .int .i64 pa.1.2.1, .int .i64 pa.1.2.2.1, .int .i64 pa.1.2.2.2] 44 (0, 0)) := heap_alloc_new w4 _
      obtain ⟨p0, p1, p2, p3⟩ := box4 b1'
      obtain ⟨q0, q1, q2, q3⟩ := box4 b2'
      have hq := ans_neq (w4.alloc (.cells #[.string pa.1.1, .int .i64 pa.1.2.1, .int .i64 pa.1.2.2.1, .int .i64 pa.1.2.2.2] 44)) pa.1.1 pa.1.2.1 pa.1.2.2.1 pa.1.2.2.2
      have hq2 := ans_guard (w4.alloc (.cells #[.string pa.1.1, .int .i64 pa.1.2.1, .int .i64 pa.1.2.2.1, .int .i64 pa.1.2.2.2] 44)) .neq
      have HFN : Hid (Fit (k + 1) pa.2.1) := hid (by rw [← HPA.out]; exact HFI.out.act F kk b c s' HRX.out)
      have HSN : Hid (pa.2.1.src = r') := hid (by rw [← HPA.out, pact_src HFI.out]; exact HSR.out)
      have HEN := hid ((ht.less (Bx' := []) (by simp)).quiet (fr_alloc w4 (.cells #[.string pa.1.1, .int .i64 pa.1.2.1, .int .i64 pa.1.2.2.1, .int .i64 pa.1.2.2.2] 44)))
      clear ht HC2 g0 g1 g2 g3 b1 b1' b2' HT2
      go_wp2_with fail
      go_roundw
      case rel => exact ⟨k + 1, _, _, by omega, by go_num, HEN.out, HFN.out, HSN.out⟩
      case measure => simp [intOf]; omega
    · have hkl : k = l1 := by omega
      subst hkl
      obtain ⟨a1', a2', a3'⟩ := prun_add HFI.out F ss pn pm HRX.out (by omega)
      have A1 := hid a1'
      have A2 := hid a2'
      have A3 := hid a3'
      have HR1 := hid (HL.out.run1 HFI.out (by omega) HRX.out ss ((pn : Int) + (pm : Int)))
      have HF1 := hid (HFI.out.run F ss ((pn : Int) + (pm : Int)) HRX.out)
      have HF2 := hid (HFI.out.run F ss (pn : Int) HRX.out)
      have HS1' := hid (pact_src (s := ByteArray.empty) HFI.out F 8 ss ((pn : Int) + (pm : Int)))
      have HS2' := hid (pact_src (s := ByteArray.empty) HFI.out F 8 ss (pn : Int))
      rw [pact_run] at HS1' HS2'
      clear a1' a2' a3'
      go_wp2_with fail
      go_at_call 18
      refine (HPN.out _).mono ?_
      rintro e w3 ⟨rfl, rfl⟩
      go_wp2_with fail
      go_at_call 18
      refine (HPM.out _).mono ?_
      rintro e w4 ⟨rfl, rfl⟩
      go_wp2_with fail
      go_at_call 19
      refine HR1.out.mono ?_
      rintro e w5 ⟨rfl, ht⟩
      have HR2 := hid (ht.run2 HFI.out (by omega) HRX.out ss (pn : Int))
      clear ht HR1
      go_wp2_with fail
      go_at_call 19
      refine HR2.out.mono ?_
      rintro e w6 ⟨rfl, ht⟩
      have HT := hid ht
      clear ht HR2
      generalize hRA : prunE X F ss ((pn : Int) + (pm : Int)) = ra at HT A1 A2 A3 HF1 HS1' ⊢
      generalize hRB : prunE X F ss (pn : Int) = rb at HT A1 A2 A3 HF2 HS2' ⊢
      have hbd := prun_le X F ss (pn : Int)
      rw [hRB] at hbd
      rw [show ra.1.2.2 = rb.1.2.2 from A1.out]
      clear hRA hRB
      have HRZ0 : Hid (RulesP ra.2.1.src.2.1 ra.2.1.src.2.2) := hid (by rw [HS1'.out]; exact HRX.out)
      have HRB0 : Hid (RulesP rb.2.1.src.2.1 rb.2.1.src.2.2) := hid (by rw [HS2'.out]; exact HRX.out)
      by_cases hsp : rb.1.2.1 = 2
      · obtain ⟨x1, x2, x3, x4, x5⟩ := A2.out hsp
        have HR3 := hid (HT.out.run2 HF2.out (by omega) HRB0.out ss (pm : Int))
        have hbq := prun_le rb.2.1 rb.2.2 ss (pm : Int)
        generalize prunE rb.2.1 rb.2.2 ss (pm : Int) = rc at HR3 hbq x2 x3 x4 x5
        obtain ⟨⟨ra1, ra2, ra3⟩, Z, H⟩ := ra
        obtain ⟨⟨rc1, rc2, rc3⟩, Z', H'⟩ := rc
        obtain ⟨⟨rb1, rb2, rb3⟩, YB, GB⟩ := rb
        simp only [Prod.mk.injEq] at x1 x2 x3 x4 x5 hsp hbq hbd HR3 HF1 HRZ0
        obtain ⟨rfl, rfl⟩ := x5
        subst x1 x2 x3 x4 hsp
        have HFZ := HF1
        have HRZ := HRZ0
        clear A1 A2 A3 HT HF2 HS2' HRB0 HS1'
        go_wp2_with fail
        go_at_call 19
        refine HR3.out.mono ?_
        rintro e w7 ⟨rfl, ht⟩
        have HEE := hid ht
        clear ht HR3
        have HEV : Hid (pact Z H 4 ss 0 ByteArray.empty = (((pviewF Z ss).1, 0, 0, (pviewF Z ss).2), Z, H)) := hid rfl
        have HEM : Hid (pact Z H 7 ss 0 ByteArray.empty = (((pmatE Z H ss).1, 0, 0, (pmatE Z H ss).2), Z, H)) := hid rfl
        generalize (pviewF Z ss).1 = vt at HEV
        generalize (pviewF Z ss).2 = ve at HEV
        generalize (pmatE Z H ss).1 = mt at HEM
        generalize (pmatE Z H ss).2 = me at HEM
        have HC1 := hid (HEE.out.act1 HFZ.out (by omega) HRZ.out 4 ss 0 ByteArray.empty (by decide))
        rw [HEV.out] at HC1
        simp only at HC1
        go_wp2_with fail
        go_at_call 16
        refine HC1.out.mono ?_
        rintro e wA ⟨rfl, ht⟩
        have HA := hid (ht.alloc #[.string vt, .int .i64 0, .int .i64 0, .int .i64 ve] 44)
        have HC2 := hid (HA.out.act2 HFZ.out (by omega) HRZ.out 4 ss 0 ByteArray.empty (by decide))
        rw [HEV.out] at HC2
        simp only at HC2
        clear ht HC1 HEE
        go_wp2_with fail
        go_at_call 16
        refine HC2.out.mono ?_
        rintro e wB ⟨rfl, ht⟩
        have HB := hid (ht.alloc #[.string vt, .int .i64 0, .int .i64 0, .int .i64 ve] 44)
        have HC3 := hid (HB.out.act1 HFZ.out (by omega) HRZ.out 7 ss 0 ByteArray.empty (by decide))
        rw [HEM.out] at HC3
        simp only at HC3
        clear ht HC2 HA
        go_wp2_with fail
        go_at_call 16
        refine HC3.out.mono ?_
        rintro e wC ⟨rfl, ht⟩
        have HC := hid (ht.alloc #[.string mt, .int .i64 0, .int .i64 0, .int .i64 me] 44)
        have HC4 := hid (HC.out.act2 HFZ.out (by omega) HRZ.out 7 ss 0 ByteArray.empty (by decide))
        rw [HEM.out] at HC4
        simp only at HC4
        clear ht HC3 HB
        go_wp2_with fail
        go_at_call 16
        refine HC4.out.mono ?_
        rintro e wD ⟨rfl, ht⟩
        have HD := hid (ht.alloc #[.string mt, .int .i64 0, .int .i64 0, .int .i64 me] 44)
        clear ht HC4 HC
        generalize hWD : wD.alloc (.cells #[.string mt, .int .i64 0, .int .i64 0, .int .i64 me] 44) = WD at HD
        have b1 := HD.out.box (b := (wA.heap.size, #[.string vt, .int .i64 0, .int .i64 0, .int .i64 ve], 44)) (by simp)
        have b2 := HD.out.box (b := (wB.heap.size, #[.string vt, .int .i64 0, .int .i64 0, .int .i64 ve], 44)) (by simp)
        have b3 := HD.out.box (b := (wC.heap.size, #[.string mt, .int .i64 0, .int .i64 0, .int .i64 me], 44)) (by simp)
        have b4 := HD.out.box (b := (wD.heap.size, #[.string mt, .int .i64 0, .int .i64 0, .int .i64 me], 44)) (by simp)
        rw [← hWD] at b1 b2 b3 b4
        obtain ⟨p0, p1, p2, p3⟩ := box4 b1
        obtain ⟨q0, q1, q2, q3⟩ := box4 b2
        obtain ⟨r0, r1, r2, r3⟩ := box4 b3
        obtain ⟨t0, t1, t2, t3⟩ := box4 b4
        have e1 := ans_eql (wD.alloc (.cells #[.string mt, .int .i64 0, .int .i64 0, .int .i64 me] 44)) vt 0 0 ve
        have e2 := ans_eql (wD.alloc (.cells #[.string mt, .int .i64 0, .int .i64 0, .int .i64 me] 44)) mt 0 0 me
        have e3 := ans_guard (wD.alloc (.cells #[.string mt, .int .i64 0, .int .i64 0, .int .i64 me] 44)) .eql
        have HBEL : Hid (Below w.heap.size w (wD.alloc (.cells #[.string mt, .int .i64 0, .int .i64 0, .int .i64 me] 44))) := hid (by rw [hWD]; exact HD.out.below)
        clear b1 b2 b3 b4 hWD HD
        go_wp2_with fail
        go_ret
        exact ⟨rfl, HBEL.out⟩
      · have hA3 := A3.out hsp
        subst hA3
        obtain ⟨⟨ra1, ra2, ra3⟩, Z, H⟩ := ra
        simp only at hsp hbd HT HF1 HRZ0
        have HFZ := HF1
        have HRZ := HRZ0
        have HEE := HT
        have qq : (ra2 == 2) = false := by simpa using hsp
        clear A1 A2 A3 HT HF2 HS2' HRB0 HS1' hsp
        have HEV : Hid (pact Z H 4 ss 0 ByteArray.empty = (((pviewF Z ss).1, 0, 0, (pviewF Z ss).2), Z, H)) := hid rfl
        have HEM : Hid (pact Z H 7 ss 0 ByteArray.empty = (((pmatE Z H ss).1, 0, 0, (pmatE Z H ss).2), Z, H)) := hid rfl
        generalize (pviewF Z ss).1 = vt at HEV
        generalize (pviewF Z ss).2 = ve at HEV
        generalize (pmatE Z H ss).1 = mt at HEM
        generalize (pmatE Z H ss).2 = me at HEM
        have HC1 := hid (HEE.out.act1 HFZ.out (by omega) HRZ.out 4 ss 0 ByteArray.empty (by decide))
        rw [HEV.out] at HC1
        simp only at HC1
        go_wp2_with fail
        go_at_call 16
        refine HC1.out.mono ?_
        rintro e wA ⟨rfl, ht⟩
        have HA := hid (ht.alloc #[.string vt, .int .i64 0, .int .i64 0, .int .i64 ve] 44)
        have HC2 := hid (HA.out.act2 HFZ.out (by omega) HRZ.out 4 ss 0 ByteArray.empty (by decide))
        rw [HEV.out] at HC2
        simp only at HC2
        clear ht HC1 HEE
        go_wp2_with fail
        go_at_call 16
        refine HC2.out.mono ?_
        rintro e wB ⟨rfl, ht⟩
        have HB := hid (ht.alloc #[.string vt, .int .i64 0, .int .i64 0, .int .i64 ve] 44)
        have HC3 := hid (HB.out.act1 HFZ.out (by omega) HRZ.out 7 ss 0 ByteArray.empty (by decide))
        rw [HEM.out] at HC3
        simp only at HC3
        clear ht HC2 HA
        go_wp2_with fail
        go_at_call 16
        refine HC3.out.mono ?_
        rintro e wC ⟨rfl, ht⟩
        have HC := hid (ht.alloc #[.string mt, .int .i64 0, .int .i64 0, .int .i64 me] 44)
        have HC4 := hid (HC.out.act2 HFZ.out (by omega) HRZ.out 7 ss 0 ByteArray.empty (by decide))
        rw [HEM.out] at HC4
        simp only at HC4
        clear ht HC3 HB
        go_wp2_with fail
        go_at_call 16
        refine HC4.out.mono ?_
        rintro e wD ⟨rfl, ht⟩
        have HD := hid (ht.alloc #[.string mt, .int .i64 0, .int .i64 0, .int .i64 me] 44)
        clear ht HC4 HC
        generalize hWD : wD.alloc (.cells #[.string mt, .int .i64 0, .int .i64 0, .int .i64 me] 44) = WD at HD
        have b1 := HD.out.box (b := (wA.heap.size, #[.string vt, .int .i64 0, .int .i64 0, .int .i64 ve], 44)) (by simp)
        have b2 := HD.out.box (b := (wB.heap.size, #[.string vt, .int .i64 0, .int .i64 0, .int .i64 ve], 44)) (by simp)
        have b3 := HD.out.box (b := (wC.heap.size, #[.string mt, .int .i64 0, .int .i64 0, .int .i64 me], 44)) (by simp)
        have b4 := HD.out.box (b := (wD.heap.size, #[.string mt, .int .i64 0, .int .i64 0, .int .i64 me], 44)) (by simp)
        rw [← hWD] at b1 b2 b3 b4
        obtain ⟨p0, p1, p2, p3⟩ := box4 b1
        obtain ⟨q0, q1, q2, q3⟩ := box4 b2
        obtain ⟨r0, r1, r2, r3⟩ := box4 b3
        obtain ⟨t0, t1, t2, t3⟩ := box4 b4
        have e1 := ans_eql (wD.alloc (.cells #[.string mt, .int .i64 0, .int .i64 0, .int .i64 me] 44)) vt 0 0 ve
        have e2 := ans_eql (wD.alloc (.cells #[.string mt, .int .i64 0, .int .i64 0, .int .i64 me] 44)) mt 0 0 me
        have e3 := ans_guard (wD.alloc (.cells #[.string mt, .int .i64 0, .int .i64 0, .int .i64 me] 44)) .eql
        have HBEL : Hid (Below w.heap.size w (wD.alloc (.cells #[.string mt, .int .i64 0, .int .i64 0, .int .i64 me] 44))) := hid (by rw [hWD]; exact HD.out.below)
        clear b1 b2 b3 b4 hWD HD
        go_wp2_with fail
        go_ret
        exact ⟨rfl, HBEL.out⟩

end Go.Proofs.Ythlhbjnkohinmaa
