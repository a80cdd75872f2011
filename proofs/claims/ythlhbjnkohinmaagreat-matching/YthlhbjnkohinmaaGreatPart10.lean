import Derived.Test.YthlhbjnkohinmaaGreatPart09
import Derived.Test.YthlhbjnkohinmaaGreatLaw2
import Derived.Test.YthlhbjnkohinmaaGreatPart08
import Derived.Test.YthlhbjnkohinmaaGreatNewsProof
import Derived.Test.YthlhbjnkohinmaaGreatPart00
import Derived.Test.YthlhbjnkohinmaaGreatPart06
import Derived.Test.YthlhbjnkohinmaaGreatUb2
/- The statements' loop over a script, in engines that are never full. -/
namespace Go.Proofs.YthlhbjnkohinmaaGreat
open Go.RowKit

/-- Every step of a kind up to last is as the document says. -/
def StepOk (last : Int) : Prop := ∀ (bw i : Nat) (Ps : List (PEng × Eng)) (f : List Nat) (k a b c : Int) (s : ByteArray) (w : World), WorldA bw Ps w f → f.Nodup → (∀ q ∈ Ps, Good i q) → i ≤ 4000000000000 → (Ps.length + 1) * 8 ≤ 140737488355328 → -9223372036854775808 ≤ a → a ≤ 9223372036854775807 → s.size ≤ maxLen → (k = 1 → c = 999) → k ≤ last → LateIs Ps k a false →
    Calls Tryz.prog 10 #[.pointer (some ⟨bw, 0, none⟩), stepV k a b c s] w fun e w' => e = .returned (.bool true) ∧ WTo bw i Ps.length f w w'
theorem stepOk_six : StepOk 6 := fun bw i Ps f k a b c s w h1 h2 h3 h4 h5 h6 h7 h8 h9 h10 _ => step_all bw i Ps f k a b c s w h1 h2 h3 h4 h5 h6 h7 h8 h9 h10

/-- The loop's state: B is where the memory of the call begins. -/
structure Loop (B : Nat) (w : World) (i : Nat) (wr : World) (Ps : List (PEng × Eng)) (f : List Nat) : Prop where
  inv : WorldA B Ps wr f
  nodup : f.Nodup
  above : ∀ g ∈ f, B ≤ g
  good : ∀ q ∈ Ps, Good i q
  few : Ps.length ≤ i
  below : Below B w wr
  room : B < wr.heap.size
theorem Loop.quiet {B : Nat} {w : World} {i : Nat} {wr wr' : World} {Ps : List (PEng × Eng)} {f : List Nat} (h : Loop B w i wr Ps f) (hf : Fr [] wr wr') : Loop B w i wr' Ps f :=
  ⟨WorldA.framed _ _ h.inv hf (by simp), h.nodup, h.above, h.good, h.few, h.below.trans (hf.below (Nat.le_of_lt h.room) (by simp)), Nat.lt_of_lt_of_le h.room hf.size⟩
theorem Loop.next {B : Nat} {w : World} {i : Nat} {wr : World} {Ps : List (PEng × Eng)} {f : List Nat} (h : Loop B w i wr Ps f) : Loop B w (i + 1) wr Ps f :=
  ⟨h.inv, h.nodup, h.above, fun q hq => (h.good q hq).mono (Nat.le_succ i), Nat.le_succ_of_le h.few, h.below, h.room⟩
theorem Loop.step {B : Nat} {w : World} {i : Nat} {wr wr' : World} {Ps : List (PEng × Eng)} {f : List Nat} (h : Loop B w i wr Ps f) (ht : WTo B i Ps.length f wr wr') : ∃ Ps' f', Loop B w (i + 1) wr' Ps' f' := by
  obtain ⟨Ps', ⟨f', a, n, s, r⟩, hg, hl⟩ := ht
  have hroom := h.room
  refine ⟨Ps', f', a, n, fun g hg => ?_, hg, by have := h.few; omega, h.below.trans (r.below (Nat.le_of_lt hroom) h.above), Nat.lt_of_lt_of_le hroom r.size⟩
  rcases s g hg with h1 | h1
  · exact h.above g h1
  · omega

set_option maxRecDepth 20000 in
set_option maxHeartbeats 4000000 in
theorem upTo_all (last lo hi : Int) (hok : StepOk last) (w : World) (sb off len cap : Nat) (hsb : sb < w.heap.size) (hlen : len * 48 ≤ 140737488351232) (hscr : ∀ t, t < len → ∃ k a b c s, StepAt w sb (off + t * 5) k a b c s) :
    Calls Tryz.prog 9 #[.slice (some ⟨sb, off, none⟩) len cap, .int .i64 last, .bool true, .int .i64 lo, .int .i64 hi] w fun e w' => e = .returned (.int .i64 (-1)) ∧ Below w.heap.size w w' := by
  have HS := hid hscr
  have HOK := hid hok
  clear hscr hok
  go_enter Tryz.func9, Tryz.ntmps9
  go_wp2_with fail
  go_loopw [12] (fun t wr => ∃ (k : Nat) (Ps : List (PEng × Eng)) (f : List Nat), k ≤ len ∧ t = .int .i64 k ∧ Loop w.heap.size w k wr Ps f) (fun t _ => len - (intOf t).toNat)
  case atStart =>
    refine ⟨0, [], [w.heap.size], Nat.zero_le _, rfl, ⟨⟨_, [], [], [], heap_alloc_new w _, RowA.nil _ _ _, rfl, rfl⟩, by simp, by simp, by simp, by simp, (Below.refl _ w).alloc (Nat.le_refl _) _, by simp⟩⟩
  case round =>
    obtain ⟨k, Ps, f, hk, rfl, hL⟩ := hrel
    have HL := hid hL
    clear hL
    by_cases hlt : k < len
    · obtain ⟨kk, aa, bb, cc, s, c0, c1, c2, c3, c4, a1, a2, hs⟩ := HS.out k hlt
      have hBe := HL.out.below
      have hroom := HL.out.room
      have d0 := (hBe.cell (p := ⟨sb, off + k * 5, none⟩) hsb).trans c0
      have d1 := (hBe.cell (p := ⟨sb, off + k * 5 + 1, none⟩) hsb).trans c1
      have d2 := (hBe.cell (p := ⟨sb, off + k * 5 + 2, none⟩) hsb).trans c2
      have d3 := (hBe.cell (p := ⟨sb, off + k * 5 + 3, none⟩) hsb).trans c3
      have d4 := (hBe.cell (p := ⟨sb, off + k * 5 + 4, none⟩) hsb).trans c4
      clear c0 c1 c2 c3 c4 hBe
      have hsbz : sb ≠ wr.heap.size := by omega
      have hwz : w.heap.size ≠ wr.heap.size := by omega
      have hfl : ∀ g ∈ f, g < wr.heap.size := WorldA.within _ _ HL.out.inv
      have hzf : wr.heap.size ∉ f := fun e => by have := hfl _ e; omega
      have HZF := hid hzf
      clear hfl hzf
      have HLATE : Hid (∀ (c' : Int) W, Fr [] wr W → Calls Tryz.prog 11 #[.pointer (some ⟨w.heap.size, 0, none⟩), stepV kk aa bb c' s] W fun e w' => (∃ bl, e = .returned (.bool bl) ∧ LateIs Ps kk aa bl) ∧ Fr [] W w') := hid (fun c' W hW => by
        have hq := HL.out.quiet hW
        have := hq.few
        exact late_all w.heap.size k Ps f kk aa bb c' s W hq.inv hq.nodup hq.good (by omega) (by omega) a1 a2)
      have HSTEP : Hid (∀ (c' : Int) W, Fr [] wr W → (kk = 1 → c' = 999) → kk ≤ last → LateIs Ps kk aa false → Calls Tryz.prog 10 #[.pointer (some ⟨w.heap.size, 0, none⟩), stepV kk aa bb c' s] W fun e w' => e = .returned (.bool true) ∧ (∃ Ps' f', Loop w.heap.size w (k + 1) w' Ps' f') ∧ Fr f W w') := hid (fun c' W hW hc hl hla => by
        have hq := HL.out.quiet hW
        have := hq.few
        refine (HOK.out w.heap.size k Ps f kk aa bb c' s W hq.inv hq.nodup hq.good (by omega) (by omega) a1 a2 hs hc hl hla).mono ?_
        rintro e w' ⟨rfl, ht⟩
        refine ⟨rfl, hq.step ht, ?_⟩
        obtain ⟨_, ⟨_, _, _, _, r⟩, _⟩ := ht
        exact r)
      by_cases hk1 : kk = 1
      · subst hk1
        go_wp2_with fail
        go_at_call 11
        refine (HLATE.out 999 _ (fr_alloc wr _)).mono ?_
        rintro e w1 ⟨⟨bl, rfl, hbl⟩, hf1⟩
        have HBL := hid hbl
        have HF1 := hid ((fr_alloc wr (stepC 1 aa bb 999 s)).trans hf1)
        have e0 := keep0 hf1 (cell_new (w := wr) (cs := #[.int .i64 1, .int .i64 aa, .int .i64 bb, .int .i64 999, .string s]) (t := 30) (j := 0) rfl)
        have e1 := keep0 hf1 (cell_new (w := wr) (cs := #[.int .i64 1, .int .i64 aa, .int .i64 bb, .int .i64 999, .string s]) (t := 30) (j := 1) rfl)
        have e2 := keep0 hf1 (cell_new (w := wr) (cs := #[.int .i64 1, .int .i64 aa, .int .i64 bb, .int .i64 999, .string s]) (t := 30) (j := 2) rfl)
        have e3 := keep0 hf1 (cell_new (w := wr) (cs := #[.int .i64 1, .int .i64 aa, .int .i64 bb, .int .i64 999, .string s]) (t := 30) (j := 3) rfl)
        have e4 := keep0 hf1 (cell_new (w := wr) (cs := #[.int .i64 1, .int .i64 aa, .int .i64 bb, .int .i64 999, .string s]) (t := 30) (j := 4) rfl)
        clear d0 d1 d2 d3 d4 hbl hf1 HLATE
        by_cases hgt : 1 > last
        · go_wp2_with fail
          go_roundw
          case rel => exact ⟨k + 1, Ps, f, by omega, by go_num, (HL.out.quiet HF1.out).next⟩
          case measure => simp [intOf]; omega
        · cases bl with
          | true =>
            go_wp2_with fail
            go_roundw
            case rel => exact ⟨k + 1, Ps, f, by omega, by go_num, (HL.out.quiet HF1.out).next⟩
            case measure => simp [intOf]; omega
          | false =>
            go_wp2_with fail
            go_at_call 10
            refine (HSTEP.out 999 _ HF1.out (fun _ => rfl) (by omega) HBL.out).mono ?_
            rintro e w2 ⟨rfl, hlp, hf2⟩
            have HLP := hid hlp
            have g0 := keepc hf2 e0 HZF.out
            clear hlp hf2 e0 e1 e2 e3 e4 HSTEP HBL
            go_wp2_with fail
            go_roundw
            case rel =>
              obtain ⟨Ps', f', hl'⟩ := HLP.out
              exact ⟨k + 1, Ps', f', by omega, by go_num, hl'⟩
            case measure => simp [intOf]; omega
      · have HK1 := hid hk1
        have hk2 : (kk == 1) = false := by simpa using hk1
        clear hk1
        go_wp2_with fail
        go_at_call 11
        refine (HLATE.out cc _ (fr_alloc wr _)).mono ?_
        rintro e w1 ⟨⟨bl, rfl, hbl⟩, hf1⟩
        have HBL := hid hbl
        have HF1 := hid ((fr_alloc wr (stepC kk aa bb cc s)).trans hf1)
        have e0 := keep0 hf1 (cell_new (w := wr) (cs := #[.int .i64 kk, .int .i64 aa, .int .i64 bb, .int .i64 cc, .string s]) (t := 30) (j := 0) rfl)
        have e1 := keep0 hf1 (cell_new (w := wr) (cs := #[.int .i64 kk, .int .i64 aa, .int .i64 bb, .int .i64 cc, .string s]) (t := 30) (j := 1) rfl)
        have e2 := keep0 hf1 (cell_new (w := wr) (cs := #[.int .i64 kk, .int .i64 aa, .int .i64 bb, .int .i64 cc, .string s]) (t := 30) (j := 2) rfl)
        have e3 := keep0 hf1 (cell_new (w := wr) (cs := #[.int .i64 kk, .int .i64 aa, .int .i64 bb, .int .i64 cc, .string s]) (t := 30) (j := 3) rfl)
        have e4 := keep0 hf1 (cell_new (w := wr) (cs := #[.int .i64 kk, .int .i64 aa, .int .i64 bb, .int .i64 cc, .string s]) (t := 30) (j := 4) rfl)
        clear d0 d1 d2 d3 d4 hbl hf1 HLATE
        by_cases hgt : kk > last
        · go_wp2_with fail
          go_roundw
          case rel => exact ⟨k + 1, Ps, f, by omega, by go_num, (HL.out.quiet HF1.out).next⟩
          case measure => simp [intOf]; omega
        · cases bl with
          | true =>
            go_wp2_with fail
            go_roundw
            case rel => exact ⟨k + 1, Ps, f, by omega, by go_num, (HL.out.quiet HF1.out).next⟩
            case measure => simp [intOf]; omega
          | false =>
            go_wp2_with fail
            go_at_call 10
            refine (HSTEP.out cc _ HF1.out (fun e => absurd e HK1.out) (by omega) HBL.out).mono ?_
            rintro e w2 ⟨rfl, hlp, hf2⟩
            have HLP := hid hlp
            have g0 := keepc hf2 e0 HZF.out
            clear hlp hf2 e0 e1 e2 e3 e4 HSTEP HBL
            by_cases hlo : lo ≤ kk
            · by_cases hhi : kk ≤ hi
              · go_wp2_with fail
                go_roundw
                case rel =>
                  obtain ⟨Ps', f', hl'⟩ := HLP.out
                  exact ⟨k + 1, Ps', f', by omega, by go_num, hl'⟩
                case measure => simp [intOf]; omega
              · go_wp2_with fail
                go_roundw
                case rel =>
                  obtain ⟨Ps', f', hl'⟩ := HLP.out
                  exact ⟨k + 1, Ps', f', by omega, by go_num, hl'⟩
                case measure => simp [intOf]; omega
            · go_wp2_with fail
              go_roundw
              case rel =>
                obtain ⟨Ps', f', hl'⟩ := HLP.out
                exact ⟨k + 1, Ps', f', by omega, by go_num, hl'⟩
              case measure => simp [intOf]; omega
    · go_wp2
      go_ret
      exact ⟨rfl, HL.out.below⟩

end Go.Proofs.YthlhbjnkohinmaaGreat

/- The statements' world: a step that commits. -/
namespace Go.Proofs.YthlhbjnkohinmaaGreat
open Go.RowKit

set_option maxRecDepth 20000 in
set_option maxHeartbeats 2000000 in
theorem step_seven (bw i : Nat) (Ps : List (PEng × Eng)) (f : List Nat) (a b c : Int) (s : ByteArray) (w : World) (hI : WorldA bw Ps w f) (hn : f.Nodup) (hg : ∀ q ∈ Ps, Good i q) (hi : i ≤ 4000000000000) (hl : (Ps.length + 1) * 8 ≤ 140737488355328) (ha : -9223372036854775808 ≤ a) (ha2 : a ≤ 9223372036854775807)
    (hlate : LateIs Ps 7 a false) :
    Calls Tryz.prog 10 #[.pointer (some ⟨bw, 0, none⟩), stepV 7 a b c s] w fun e w' => e = .returned (.bool true) ∧ WTo bw i Ps.length f w w' := by
  by_cases hm : Ps = []
  · have HS : Hid (∀ w', Fr [] w w' → WTo bw i Ps.length f w w') := hid (fun w' hw => WTo.same hI hn hg hw)
    obtain ⟨v, ps, f2, f3, h1, h2, h3, rfl⟩ := hI
    obtain ⟨av, mv, cv, rfl⟩ := own_slice h2.1
    have em := own_len h2.1
    have c0 := cell_of_one h1
    have hlb := lt_of_block h1
    have hzz : bw ≠ w.heap.size := by omega
    subst em
    have hl0 : Ps.length = 0 := by rw [hm]; rfl
    rw [hl0] at c0
    clear h1 h2 h3 hn hg hm hl0 hlate
    go_enter Tryz.func10, Tryz.ntmps10
    go_wp2
    go_ret
    exact ⟨rfl, HS.out _ (fr_alloc w _)⟩
  · have hpos : 0 < Ps.length := List.length_pos_iff.mpr hm
    have hr := pickN_lt a hpos
    have hkept : Ps[pickN a Ps.length].2.kept.length + 60 ≤ 999 := by
      have := hlate rfl hr
      have h2 := of_decide_eq_false this.symm
      omega
    obtain ⟨v, ps, h1, h2, g, x, y, f1, f2, hpr, hst, hgo⟩ := WorldA.at hI hn hg hr hi
    obtain ⟨av, mv, cv', rfl⟩ := own_slice h2
    have em := own_len h2
    subst em
    have c0 := cell_of_one h1
    have hlb := lt_of_block h1
    have hzz : bw ≠ w.heap.size := by omega
    have hm' : ((Ps.length : Int) == 0) = false := by simp; exact hm
    have HPK := hid (fun W => pick_any a Ps.length W ha ha2 hpos (by omega))
    rw [← pickN_eq a hpos] at HPK
    obtain ⟨gr, rfl, _, hgb, hgl, hcell⟩ := own_cell h2 hpos
    have d0 := hcell _ _ hpr
    have z1 : gr ≠ w.heap.size := by omega
    have HPS := hid (fun W (hW : Fr [] w W) => pair_commit g x y _ _ f1 f2 i a b c s W (hst.grown hW) hkept)
    have HGO := hid hgo
    obtain ⟨pn, hpn⟩ : ∃ pn, pn = pickN a Ps.length := ⟨_, rfl⟩
    rw [← hpn] at d0 HPK hr
    clear hcell h1 h2 hst hgo hkept hpn hm hI hg hn hpr hlate
    go_enter Tryz.func10, Tryz.ntmps10
    go_wp2_with fail
    go_quiet ((go_at_call 13; exact Calls.quiet_of_same (HPK.out _)))
    go_wp2_with fail
    go_at_call 15
    refine (HPS.out _ ((fr_alloc w _).drewN _)).mono ?_
    rintro e w1 ⟨rfl, hp⟩
    have HP := hid hp
    clear hp
    go_wp2
    go_ret
    exact ⟨rfl, HGO.out _ _ ((fr_alloc w _).drewN _) HP.out⟩

theorem stepOk_seven : StepOk 7 := by
  intro bw i Ps f k a b c s w h1 h2 h3 h4 h5 h6 h7 h8 h9 h10 h11
  by_cases hk : k = 7
  · subst hk
    exact step_seven bw i Ps f a b c s w h1 h2 h3 h4 h5 h6 h7 h11
  · exact step_all bw i Ps f k a b c s w h1 h2 h3 h4 h5 h6 h7 h8 h9 (by omega)

end Go.Proofs.YthlhbjnkohinmaaGreat

/- THE STATEMENT SESSIONS, PROVED. -/
namespace Go.Proofs.YthlhbjnkohinmaaGreat
open Go.ChangeShapes Go.WideShapes Go.ChangeAt Go.RowKit Go.Deep

set_option maxRecDepth 20000 in
set_option maxHeartbeats 1000000 in
theorem upTo_void (w : World) (a : Option Addr) (cap : Nat) (last lo hi : Int) :
    Calls Tryz.prog 9 #[.slice a 0 cap, .int .i64 last, .bool true, .int .i64 lo, .int .i64 hi] w fun e w' => e = .returned (.int .i64 (-1)) ∧ Below w.heap.size w w' := by
  go_enter Tryz.func9, Tryz.ntmps9
  go_wp2_with fail
  refine wp_loop_rounds 1 ?_
  rw [rounds_succ]
  go_wp2
  go_ret
  exact ⟨rfl, (Below.refl _ w).alloc (Nat.le_refl _) _⟩
theorem upTo_any (w : World) (a : Option Addr) (len cap : Nat) (last lo hi : Int) (hok : StepOk last) (h : IsScript w a len) (hlen : len * 48 ≤ 140737488351232) :
    Calls Tryz.prog 9 #[.slice a len cap, .int .i64 last, .bool true, .int .i64 lo, .int .i64 hi] w fun e w' => e = .returned (.int .i64 (-1)) ∧ Below w.heap.size w w' := by
  rcases h with rfl | ⟨sb, off, rfl, h1, h2⟩
  · exact upTo_void w a cap last lo hi
  · exact upTo_all last lo hi hok w sb off len cap h1 hlen h2

theorem sess_walk (w : World) (a : Option Addr) (len cap : Nat) (h : IsScript w a len) (hlen : len * 48 ≤ 140737488351232) :
    Calls Tryz.prog 4 #[.slice a len cap] w fun e w' => e = .returned (.bool true) ∧ Below w.heap.size w w' := by
  have HU := hid (upTo_any w a len cap 6 2 6 stepOk_six h hlen)
  clear h
  go_enter Tryz.func4, Tryz.ntmps4
  go_wp2_with fail
  go_at_call 9
  refine HU.out.mono ?_
  rintro e w1 ⟨rfl, hb⟩
  have HB := hid hb
  clear hb
  go_wp2
  go_ret
  exact ⟨rfl, HB.out⟩

set_option maxRecDepth 100000 in
theorem sess_lifted (os : Os) (started : os.Started) (H : Type) (enc : TypeId × Value → H) :
    ReturnsInHanded {} Tryz.checked os 4 .any (Rows.sessionsSpec.pre6 enc Tryz.prog Tryz.f4 Rows.sessionsRow.domain false) (Rows.sessionsSpec.post enc Tryz.prog Tryz.f4 false true false false) := by
  refine returnsInHanded_of_change_sized (C := Tryz.checked) Tryz.own started (by kernel_rfl) Tryz.func4
    (ChangeSpec.witness6 (enc := enc) (C := Tryz.checked) false ⟨#[], #[.slice none 0 0], []⟩ 8 (by kernel_rfl) (by kernel_rfl) (by kernel_rfl) (by kernel_rfl)) ?_
  intro W base args ds gs before hval0 hW _ hsz0 _
  have hsz : (DataW.weightsEach Tryz.prog (Tryz.f4.params.toList ++ Rows.sessionsSpec.plain.varTypes Tryz.prog) (ds ++ gs)).all (· ≤ reachBytes) = true := hsz0
  clear hsz0
  have hval : ∀ (j : Nat) t v, Tryz.f4.params[j]? = some t → args[j]? = some v → Value.okWide Tryz.prog W .any base t v := hval0
  have hW' := hW
  obtain ⟨p, q, hA0, hV, rfl, _, _⟩ := hW
  have hA : DataW.TrodAll enc Tryz.prog W 0 (fun _ => true) true Tryz.f4.params.toList args.toList ds p := hA0
  rw [Tryz.params4] at hA hval hsz
  obtain ⟨v0, d0, rfl, rfl, h0⟩ := trodAll_one hA
  obtain ⟨rfl, rfl⟩ := trodVars_none hV
  obtain ⟨a0, len0, cap0, rfl⟩ := okWide_slice Tryz.underlying22 (hval 0 22 v0 rfl rfl)
  have k0 := h0
  have lt0 : ∀ x ∈ p, x.block < W.heap.size := by obtain ⟨m, hm⟩ := k0; exact DataW.trod_lt m _ _ _ hm
  have hs0 : IsScript W a0 len0 ∧ len0 * 48 ≤ 140737488351232 := by
    obtain ⟨fuel, hf⟩ := h0
    obtain ⟨hs, elems, sp, hd | hd⟩ := script_open (by simpa [Value.cells] using hf)
    · exact ⟨hs, by rw [hd.2]; omega⟩
    · refine ⟨hs, ?_⟩
      obtain ⟨rfl, hel⟩ := hd
      have := sized_slice hsz (j := 0) (t := 22) (e := 30) rfl rfl Tryz.underlying22
      rw [Tryz.bytes30] at this
      simp only [reachBytes] at this
      omega
  clear hA0 hval0
  refine (sess_walk W a0 len0 cap0 hs0.1 hs0.2).mono fun e W' ⟨he, bel⟩ => ?_
  subst he
  exact ⟨_, rfl, _, _, _, [], _, [], hW', trodAll_mk1 (shut_bool Tryz.underlying4 _), trodAll_mk1 (Below.trod Tryz.laidOut (by kernel_rfl) (of_decide_eq_true (by kernel_rfl)) k0 bel lt0), rfl, bel.frame _, fun h => by cases h⟩

theorem sessions_holds : Rows.SessionsSaid :=
  OpenClaim.holds_of_wide 4 Tryz.f4 rfl rfl rfl rfl rfl rfl rfl ⟨rfl, rfl, rfl, rfl, rfl⟩ rfl rfl rfl rfl rfl (by kernel_rfl) Tryz.func4 (by kernel_rfl)
    (of_decide_eq_true (by kernel_rfl)) (by unfold Func.isWrapper; first | (rw [if_pos (by decide +kernel)]; kernel_rfl) | (rw [if_neg (by decide +kernel)]; exact ⟨rfl, rfl⟩))
    (fun os started H enc _ => sess_lifted os started H enc)

#print axioms sessions_holds

end Go.Proofs.YthlhbjnkohinmaaGreat

/- Two ways to put a list in order. -/
namespace Go.Proofs.YthlhbjnkohinmaaGreat

variable {α : Type}
/-- An element is put in front of the first that it comes ahead of. -/
def insF (lt : α → α → Bool) (x : α) : List α → List α
  | [] => [x]
  | y :: r => if lt x y then x :: y :: r else y :: insF lt x r
def isort (lt : α → α → Bool) (l : List α) : List α := l.foldl (fun out x => insF lt x out) []
/-- Two lists are merged. -/
def mrg (lt : α → α → Bool) : List α → List α → List α
  | [], B => B
  | a :: A, [] => a :: A
  | a :: A, b :: B => if lt b a then b :: mrg lt (a :: A) B else a :: mrg lt A (b :: B)
/-- What comes ahead, by weight and time. -/
structure Weak (lt : α → α → Bool) : Prop where
  trans : ∀ {a b c}, lt a b = true → lt b c = true → lt a c = true
  neg : ∀ {a b c}, lt a b = false → lt b c = false → lt a c = false
  irr : ∀ a, lt a a = false

theorem mrg_nil (lt : α → α → Bool) (A : List α) : mrg lt A [] = A := by cases A <;> simp [mrg]
theorem mrg_one (lt : α → α → Bool) (x : α) : ∀ A, mrg lt A [x] = insF lt x A
  | [] => by simp [mrg, insF]
  | a :: A => by
    rw [mrg, insF]
    by_cases h : lt x a = true
    · rw [if_pos h, if_pos h, mrg_nil]
    · rw [if_neg h, if_neg h, mrg_one lt x A]
theorem mrg_ins {lt : α → α → Bool} (hw : Weak lt) (x : α) : ∀ A B, mrg lt A (insF lt x B) = insF lt x (mrg lt A B)
  | [], B => by simp [mrg]
  | a :: A, [] => by rw [mrg_nil]; exact mrg_one lt x (a :: A)
  | a :: A, b :: B => by
    have i1 := mrg_ins hw x (a :: A) B
    have i2 := mrg_ins hw x A (b :: B)
    have e1 : insF lt x (b :: B) = if lt x b then x :: b :: B else b :: insF lt x B := rfl
    have e2 : mrg lt (a :: A) (b :: B) = if lt b a then b :: mrg lt (a :: A) B else a :: mrg lt A (b :: B) := by rw [mrg]
    by_cases h1 : lt b a = true
    · rw [e2, if_pos h1]
      by_cases h2 : lt x b = true
      · rw [e1, if_pos h2, insF, if_pos h2, mrg, if_pos (hw.trans h2 h1), e2, if_pos h1]
      · rw [e1, if_neg h2, insF, if_neg h2, mrg, if_pos h1, i1]
    · rw [e2, if_neg h1]
      by_cases h2 : lt x b = true
      · rw [e1, if_pos h2, insF]
        rw [mrg]
        by_cases h3 : lt x a = true
        · rw [if_pos h3, if_pos h3, e2, if_neg h1]
        · rw [if_neg h3, if_neg h3]
          rw [e1, if_pos h2] at i2
          rw [i2]
      · have h3 : ¬ lt x a = true := by
          have := hw.neg (a := x) (b := b) (c := a) (by simpa using h2) (by simpa using h1)
          simp [this]
        rw [e1, if_neg h2] at i2 ⊢
        rw [insF, if_neg h3, mrg, if_neg h1, i2]
theorem mrg_sorts {lt : α → α → Bool} (hw : Weak lt) (l1 l2 : List α) : mrg lt (isort lt l1) (isort lt l2) = isort lt (l1 ++ l2) := by
  have key : ∀ (n : Nat) (l2 : List α), l2.length = n → mrg lt (isort lt l1) (isort lt l2) = isort lt (l1 ++ l2) := by
    intro n
    induction n with
    | zero =>
      intro l2 h
      have : l2 = [] := List.length_eq_zero_iff.mp h
      subst this
      simp [isort, mrg_nil]
    | succ n ih =>
      intro l2 h
      rcases List.eq_nil_or_concat l2 with rfl | ⟨l, x, rfl⟩
      · simp at h
      · have hl : l.length = n := by simpa using h
        have e1 : isort lt (l.concat x) = insF lt x (isort lt l) := by simp [isort]
        have e2 : isort lt (l1 ++ l.concat x) = insF lt x (isort lt (l1 ++ l)) := by
          rw [List.concat_eq_append, ← List.append_assoc]
          simp [isort]
        rw [e1, e2, mrg_ins hw, ih l hl]
  exact key _ l2 rfl

/-- Nobody comes ahead of one in front of it. -/
def Sorted (lt : α → α → Bool) (l : List α) : Prop := l.Pairwise fun a b => lt b a = false
theorem insF_mem {lt : α → α → Bool} {x z : α} : ∀ {l : List α}, z ∈ insF lt x l ↔ z = x ∨ z ∈ l
  | [] => by simp [insF]
  | y :: r => by
    rw [insF]
    split
    · simp
    · simp [insF_mem (l := r)]
      constructor
      · rintro (h | h | h) <;> simp [h]
      · rintro (h | h | h) <;> simp [h]
theorem insF_sorted {lt : α → α → Bool} (hw : Weak lt) (x : α) : ∀ {l : List α}, Sorted lt l → Sorted lt (insF lt x l)
  | [], _ => by simp [insF, Sorted]
  | y :: r, h => by
    have h' := List.pairwise_cons.mp h
    rw [insF]
    by_cases e : lt x y = true
    · rw [if_pos e]
      refine List.pairwise_cons.mpr ⟨fun z hz => ?_, h⟩
      cases hzx : lt z x with
      | false => rfl
      | true =>
        have := hw.trans hzx e
        rcases List.mem_cons.mp hz with rfl | hz
        · rw [hw.irr] at this; cases this
        · rw [h'.1 z hz] at this; cases this
    · rw [if_neg e]
      refine List.pairwise_cons.mpr ⟨fun z hz => ?_, insF_sorted hw x h'.2⟩
      rcases insF_mem.mp hz with rfl | hz
      · simpa using e
      · exact h'.1 z hz
theorem insF_snoc {lt : α → α → Bool} (hw : Weak lt) (x y : α) : ∀ {l : List α}, (∀ o ∈ l, lt y o = false) → insF lt x (l ++ [y]) = if lt x y then insF lt x l ++ [y] else l ++ [y, x]
  | [], _ => by
    simp only [List.nil_append, insF]
    by_cases e : lt x y = true
    · rw [if_pos e, if_pos e]; rfl
    · rw [if_neg e, if_neg e]
  | o :: l, h => by
    have ih := insF_snoc hw x y (l := l) (fun z hz => h z (by simp [hz]))
    rw [List.cons_append, insF, ih]
    by_cases e : lt x y = true
    · rw [if_pos e, if_pos e, insF]
      split <;> simp
    · rw [if_neg e, if_neg e]
      have : lt x o = false := hw.neg (b := y) (by simpa using e) (h o (by simp))
      rw [if_neg (by simp [this])]
      rfl

/-- Where an element is put. -/
theorem insF_at {lt : α → α → Bool} (hw : Weak lt) (x : α) : ∀ (O : List α) (k : Nat), k ≤ O.length → Sorted lt O → (∀ b ∈ O.drop k, lt x b = true) → (k = 0 ∨ ∃ h : k - 1 < O.length, lt x O[k - 1] = false) → insF lt x O = O.take k ++ x :: O.drop k
  | [], k, hk, _, _, _ => by
    have : k = 0 := by simpa using hk
    subst this
    rfl
  | o :: r, 0, _, _, h1, _ => by
    have := h1 o (by simp)
    simp [insF, this]
  | o :: r, m + 1, hk, hs, h1, h2 => by
    have hs' := List.pairwise_cons.mp hs
    have hxo : lt x o = false := by
      rcases h2 with h | ⟨h, e⟩
      · omega
      · cases m with
        | zero => simpa using e
        | succ m =>
          have hm : m < r.length := by simp at h; omega
          have e' : lt x r[m] = false := by simpa using e
          exact hw.neg e' (hs'.1 r[m] (List.getElem_mem hm))
    rw [insF, if_neg (by simp [hxo])]
    rw [insF_at hw x r m (by simpa using hk) hs'.2 (fun b hb => h1 b (by simpa using hb)) ?_]
    · simp
    · cases m with
      | zero => exact .inl rfl
      | succ m =>
        right
        rcases h2 with h | ⟨h, e⟩
        · omega
        · have hm : m < r.length := by simp at h; omega
          exact ⟨by simpa using hm, by simpa using e⟩
theorem isort_snoc {lt : α → α → Bool} (l : List α) (x : α) : isort lt (l ++ [x]) = insF lt x (isort lt l) := by simp [isort]
theorem isort_sorted {lt : α → α → Bool} (hw : Weak lt) (l : List α) : Sorted lt (isort lt l) := by
  have key : ∀ (l : List α) (out : List α), Sorted lt out → Sorted lt (l.foldl (fun out x => insF lt x out) out) := by
    intro l
    induction l with
    | nil => intro out h; exact h
    | cons x l ih => intro out h; exact ih _ (insF_sorted hw x h)
  exact key l [] List.Pairwise.nil
theorem isort_mem {lt : α → α → Bool} {z : α} : ∀ {l : List α}, z ∈ isort lt l ↔ z ∈ l := by
  have key : ∀ (l out : List α), z ∈ l.foldl (fun out x => insF lt x out) out ↔ z ∈ l ∨ z ∈ out := by
    intro l
    induction l with
    | nil => intro out; simp
    | cons x l ih =>
      intro out
      rw [List.foldl_cons, ih, insF_mem]
      simp
      constructor
      · rintro (h | h | h) <;> simp [h]
      · rintro ((h | h) | h) <;> simp [h]
  intro l
  have := key l []
  simpa [isort] using this
theorem insF_len {lt : α → α → Bool} (x : α) : ∀ l : List α, (insF lt x l).length = l.length + 1
  | [] => rfl
  | y :: r => by
    rw [insF]
    split
    · simp
    · simp [insF_len x r]
theorem isort_len {lt : α → α → Bool} (l : List α) : (isort lt l).length = l.length := by
  have key : ∀ (l out : List α), (l.foldl (fun out x => insF lt x out) out).length = l.length + out.length := by
    intro l
    induction l with
    | nil => intro out; simp
    | cons x l ih => intro out; rw [List.foldl_cons, ih, insF_len]; simp; omega
  have := key l []
  simpa [isort] using this

end Go.Proofs.YthlhbjnkohinmaaGreat

/- Instantiations, as plain data. -/
namespace Go.Proofs.YthlhbjnkohinmaaGreat
open Go.RowKit

/-- What the variables are: nothing yet, or a digit. -/
abbrev Env := Nat → Option Int
/-- Does a digit go with a term? -/
def goT (e : Env) (t d : Int) : Option Env :=
  if t = 95 then some e
  else if digB t then (if t - 48 = d then some e else none)
  else match e (t - 119).toNat with
    | none => some (upd e (t - 119).toNat (some d))
    | some v => if v = d then some e else none
/-- Does a fact go with a pattern? -/
def goP (e : Env) (c t1 t2 : Int) (q : PFact) : Option Env :=
  if c - 97 = (q.1 : Int) / 10 then (goT e t1 ((q.1 : Int) % 10)).bind fun e1 => goT e1 t2 q.2.1 else none
/-- What a digit or a variable is; z: what one is that is nothing yet. -/
def ofE (z : Int) (e : Env) (t : Int) : Int := if digB t then t - 48 else (e (t - 119).toNat).getD z
def tstB (g a b : Int) : Bool := if g = 60 then decide (a < b) else if g = 61 then decide (a = b) else decide (a ≠ b)

/-- An instantiation, or the beginning of one. -/
structure In where
  rule : Nat
  facts : List PFact
  env : Env
def In.start (r : Nat) : In := ⟨r, [], fun _ => none⟩
/-- Over a pattern. -/
def onP (F : List PFact) (c t1 t2 : Int) (i : In) : List In := F.filterMap fun q => (goP i.env c t1 t2 q).map fun e => ⟨i.rule, i.facts ++ [q], e⟩
def noneB (F : List PFact) (e : Env) (c t1 t2 : Int) : Bool := F.all fun q => (goP e c t1 t2 q).isNone
/-- Over the condition that stands at p. -/
def onC (z : Int) (s : ByteArray) (F : List PFact) (l : List In) (p : Nat) : List In :=
  if bt s p = 33 then l.filter fun i => noneB F i.env (bt s (p + 1)) (bt s (p + 2)) (bt s (p + 3))
  else if clsB (bt s p) then l.flatMap (onP F (bt s p) (bt s (p + 1)) (bt s (p + 2)))
  else l.filter fun i => tstB (bt s (p + 1)) (ofE z i.env (bt s p)) (ofE z i.env (bt s (p + 2)))
/-- Those of one rule. -/
def instR (z : Int) (s : ByteArray) (F : List PFact) (r : Nat) (L : List Nat) : List In := L.foldl (onC z s F) [In.start r]
/-- Those of the first n rules. -/
def instN (z : Int) (s : ByteArray) (F : List PFact) (R : List RuleP) (n : Nat) : List In := (List.range n).flatMap fun r => instR z s F r (R.getD r (0, [], [])).2.1
theorem instN_succ (z : Int) (s : ByteArray) (F : List PFact) (R : List RuleP) (n : Nat) : instN z s F R (n + 1) = instN z s F R n ++ instR z s F n (R.getD n (0, [], [])).2.1 := by
  unfold instN
  rw [List.range_succ, List.flatMap_append]
  simp

theorem onP_len (F : List PFact) (c t1 t2 : Int) (i : In) : (onP F c t1 t2 i).length ≤ F.length := List.length_filterMap_le _ _
theorem flatMap_len {α β : Type} {f : α → List β} {m : Nat} (h : ∀ a, (f a).length ≤ m) : ∀ l : List α, (l.flatMap f).length ≤ l.length * m
  | [] => by simp
  | a :: l => by
    have := flatMap_len h l
    have h2 := h a
    rw [List.flatMap_cons, List.length_append, List.length_cons, Nat.add_mul]
    omega
/-- How many there may be: sixty for each pattern. -/
theorem onC_len (z : Int) (s : ByteArray) (F : List PFact) (hF : F.length ≤ 60) (l : List In) (p : Nat) : (onC z s F l p).length ≤ l.length * 60 := by
  unfold onC
  split
  · have := List.length_filter_le (fun i : In => noneB F i.env (bt s (p + 1)) (bt s (p + 2)) (bt s (p + 3))) l
    omega
  · split
    · exact flatMap_len (fun i => Nat.le_trans (onP_len F _ _ _ i) hF) l
    · have := List.length_filter_le (fun i : In => tstB (bt s (p + 1)) (ofE z i.env (bt s p)) (ofE z i.env (bt s (p + 2)))) l
      omega

/-- What an instantiation's facts, and its variables, are made of. -/
structure InOk (F : List PFact) (i : In) : Prop where
  facts : ∀ q ∈ i.facts, q ∈ F
  env : ∀ n v, i.env n = some v → 0 ≤ v ∧ v ≤ 9
def FOk (F : List PFact) : Prop := ∀ q ∈ F, q.1 < 60 ∧ 0 ≤ q.2.1 ∧ q.2.1 ≤ 9
theorem goT_ok {e e' : Env} {t d : Int} (h : goT e t d = some e') (he : ∀ n v, e n = some v → 0 ≤ v ∧ v ≤ 9) (hd : 0 ≤ d ∧ d ≤ 9) : ∀ n v, e' n = some v → 0 ≤ v ∧ v ≤ 9 := by
  unfold goT at h
  split at h
  · cases h; exact he
  · split at h
    · split at h
      · cases h; exact he
      · cases h
    · split at h
      · cases h
        intro n v hv
        unfold upd at hv
        split at hv
        · cases hv; exact hd
        · exact he n v hv
      · split at h
        · cases h; exact he
        · cases h
theorem goP_ok {e e' : Env} {c t1 t2 : Int} {q : PFact} (h : goP e c t1 t2 q = some e') (he : ∀ n v, e n = some v → 0 ≤ v ∧ v ≤ 9) (hq : q.1 < 60 ∧ 0 ≤ q.2.1 ∧ q.2.1 ≤ 9) : ∀ n v, e' n = some v → 0 ≤ v ∧ v ≤ 9 := by
  unfold goP at h
  split at h
  · cases h1 : goT e t1 ((q.1 : Int) % 10) with
    | none => rw [h1] at h; cases h
    | some e1 =>
      rw [h1] at h
      exact goT_ok h (goT_ok h1 he (by omega)) hq.2
  · cases h
theorem onP_ok {F : List PFact} (hF : FOk F) {c t1 t2 : Int} {i : In} (hi : InOk F i) : ∀ j ∈ onP F c t1 t2 i, InOk F j := by
  intro j hj
  unfold onP at hj
  obtain ⟨q, hq, hm⟩ := List.mem_filterMap.mp hj
  cases hg : goP i.env c t1 t2 q with
  | none => rw [hg] at hm; cases hm
  | some e =>
    rw [hg] at hm
    simp only [Option.map_some, Option.some.injEq] at hm
    rw [← hm]
    refine ⟨fun x hx => ?_, goP_ok hg hi.env (hF q hq)⟩
    rcases List.mem_append.mp hx with hx | hx
    · exact hi.facts x hx
    · simp at hx; rw [hx]; exact hq
theorem onC_ok {z : Int} {s : ByteArray} {F : List PFact} (hF : FOk F) {l : List In} (hl : ∀ i ∈ l, InOk F i) (p : Nat) : ∀ j ∈ onC z s F l p, InOk F j := by
  intro j hj
  unfold onC at hj
  split at hj
  · exact hl j (List.mem_filter.mp hj).1
  · split at hj
    · obtain ⟨i, hi, hm⟩ := List.mem_flatMap.mp hj
      exact onP_ok hF (hl i hi) j hm
    · exact hl j (List.mem_filter.mp hj).1
theorem start_ok (F : List PFact) (r : Nat) : InOk F (In.start r) := ⟨(by intro q hq; cases hq), (by intro n v hv; cases hv)⟩

end Go.Proofs.YthlhbjnkohinmaaGreat
