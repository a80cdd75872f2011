import Derived.Test.YthlhbjnkohinmabPart22
import Derived.Test.YthlhbjnkohinmabPart23
/- What a sweep leaves where no session is open: plain. -/
namespace Go.Proofs.Ythlhbjnkohinmab
open Go.RowKit

theorem old_none {X : PEng} (h : ∀ k, k < 8 → (X.ses k).num = 0) : ∀ m, m ≤ 8 → oldN X m = X.latest
  | 0, _ => rfl
  | m + 1, hm => by
    have h0 : oldN X (m + 1) = if 0 < (X.ses m).num ∧ (X.ses m).snap < oldN X m then (X.ses m).snap else oldN X m := rfl
    have h1 := h m (by omega)
    rw [h0, if_neg (by omega)]
    exact old_none h m (by omega)
theorem psweep_none {X : PEng} (h : ∀ k, k < 8 → (X.ses k).num = 0) : psweepF X = ((keptN X 60 : Int) - (keptN (X.swept X.latest) 60 : Int), X.swept X.latest) := by
  unfold psweepF
  rw [old_none h 8 (Nat.le_refl _)]
theorem swept_twice {i : Nat} {X : PEng} (h : Fit i X) (t : Int) : (X.swept t).swept t = X.swept t := by
  unfold PEng.swept
  simp only []
  congr 1
  funext c
  exact swept_swept (h.inc c) (Int.le_refl _)
theorem psweep_twice {i : Nat} {X : PEng} (h : Fit i X) (h0 : ∀ k, k < 8 → (X.ses k).num = 0) : psweepF (X.swept X.latest) = (0, X.swept X.latest) := by
  have h1 : ∀ k, k < 8 → ((X.swept X.latest).ses k).num = 0 := h0
  have h2 : (X.swept X.latest).latest = X.latest := rfl
  rw [psweep_none h1, h2, swept_twice h]
  simp
theorem saw_kept {i : Nat} {X : PEng} (h : Fit i X) (a b : Int) : ∀ n, (sawN (PSes.new a b) (fun c => histV ((X.swept X.latest).hist c) X.latest) n).length = keptN (X.swept X.latest) n
  | 0 => rfl
  | n + 1 => by
    have h2 : keptN (X.swept X.latest) (n + 1) = keptN (X.swept X.latest) n + (sweptH (X.hist n) X.latest).length := rfl
    have ih := saw_kept h a b n
    unfold sawN at ih ⊢
    rw [List.range_succ, List.filterMap_append, List.length_append, ih, h2]
    congr 1
    have e1 := swept_low (h.inc n) (t := X.latest) (fun p hp => (h.his n p hp).1)
    obtain ⟨e2, _⟩ := swept_seen (h.inc n) (t := X.latest) (u := X.latest) (Int.le_refl _)
    have e3 : (X.swept X.latest).hist n = sweptH (X.hist n) X.latest := rfl
    rw [e1]
    have e4 : seenT (PSes.new a b) (fun c => histV ((X.swept X.latest).hist c) X.latest) n = (histV ((X.swept X.latest).hist n) X.latest).2.map fun v => (v, (histV ((X.swept X.latest).hist n) X.latest).1) := rfl
    simp only [List.filterMap_cons, List.filterMap_nil]
    rw [e4, e3]
    unfold bareV
    rw [← e2]
    cases (histV (sweptH (X.hist n) X.latest) X.latest).2 <;> rfl
/-- What the session sees that is opened then. -/
theorem empty_view {i : Nat} {X : PEng} (h : Fit i X) (h0 : ∀ k, k < 8 → (X.ses k).num = 0) :
    (popenF (X.swept X.latest)).1 = (X.opened + 1, 0) ∧ (pviewF (popenF (X.swept X.latest)).2 (X.opened + 1)).2 = 0 ∧ (pviewF (popenF (X.swept X.latest)).2 (X.opened + 1)).1.size = 3 * keptN (X.swept X.latest) 60 := by
  have hnum : numberedP (X.swept X.latest) 0 = some 0 := by
    refine numberedP_first (by omega) (h0 0 (by omega)) (fun j hj => by omega)
  have ho : popenF (X.swept X.latest) = ((X.opened + 1, 0), { X.swept X.latest with opened := X.opened + 1, ses := upd X.ses 0 (.new (X.opened + 1) X.latest) }) := by
    unfold popenF
    rw [hnum]
    rfl
  have hop := h.opened
  have hself : (popenF (X.swept X.latest)).2.ses 0 = .new (X.opened + 1) X.latest := by
    rw [ho]
    show upd X.ses 0 _ 0 = _
    exact upd_same _ _ _
  have hf : findP (popenF (X.swept X.latest)).2 (X.opened + 1) = some 0 := ((h.swept X.latest).open).finds (by omega) (by rw [hself]; rfl) (by omega)
  refine ⟨by rw [ho], ?_, ?_⟩
  · unfold pviewF
    rw [hf]
  · unfold pviewF
    rw [hf]
    show (viewP _ 0).size = _
    rw [viewP_saw, joined_facts_size]
    congr 1
    unfold sawX
    rw [hself]
    have e : (popenF (X.swept X.latest)).2.hist = (X.swept X.latest).hist := by rw [ho]
    rw [e]
    exact saw_kept h _ _ 60
theorem abort_nums {i : Nat} {X : PEng} (h : Fit i X) {j : Int} (hj : 1 ≤ j) (hn : ∀ k, k < 8 → (X.ses k).num = 0 ∨ j ≤ (X.ses k).num) : ∀ k, k < 8 → ((pabortF X j).2.ses k).num = 0 ∨ j + 1 ≤ ((pabortF X j).2.ses k).num := by
  intro k hk
  unfold pabortF
  cases hf : findP X j with
  | none =>
    simp only []
    have hne : (X.ses k).num ≠ j := by
      unfold findP at hf
      rw [if_neg (by omega)] at hf
      exact numberedP_none hf k hk
    rcases hn k hk with h1 | h1
    · exact .inl h1
    · exact .inr (by omega)
  | some q =>
    simp only []
    obtain ⟨hq, h2, _⟩ := findP_spec hf
    show (upd X.ses q .zero k).num = 0 ∨ j + 1 ≤ (upd X.ses q .zero k).num
    by_cases e : k = q
    · subst e
      rw [upd_same]
      exact .inl rfl
    · rw [upd_ne _ _ _ e]
      rcases hn k hk with h1 | h1
      · exact .inl h1
      · by_cases e2 : (X.ses k).num = j
        · rcases h.uniq k q hk hq (by rw [e2, h2]) with h3 | h3
          · exact .inl h3
          · exact absurd h3 e
        · exact .inr (by omega)
theorem pabort_opened (X : PEng) (j : Int) : (pabortF X j).2.opened = X.opened := by
  unfold pabortF
  cases findP X j <;> rfl

end Go.Proofs.Ythlhbjnkohinmab

/- The statement Emptied, walked. -/
namespace Go.Proofs.Ythlhbjnkohinmab
open Go.RowKit

set_option maxRecDepth 20000 in
set_option maxHeartbeats 4000000 in
theorem emptied_all (w : World) (s : ByteArray) (rm : Int) (a1 : Option Addr) (l1 c1 : Nat) (hs : s.size ≤ maxLen) (hr : -9223372036854775808 ≤ rm ∧ rm ≤ 9223372036854775807) (h1 : IsScript w a1 l1) (hl1 : l1 * 40 ≤ 140737488351232) :
    Calls Try.prog 3 #[.string s, .int .i64 rm, .slice a1 l1 c1] w fun e w' => e = .returned (.bool true) ∧ Below w.heap.size w w' := by
  have HS1 : Hid (0 < l1 → ∃ sb off, a1 = some ⟨sb, off, none⟩ ∧ sb < w.heap.size ∧ ∀ t, t < l1 → ∃ k n c s, ActAt w sb (off + t * 4) k n c s) := hid (fun h0 => h1.resolve_left (by omega))
  have HP := hid (fun W => kpick_any rm 999 W hr.1 hr.2 (by decide) (by decide))
  obtain ⟨b0, b1⟩ := kpickF_bd rm ((999 : Nat) : Int) (by decide)
  generalize kpickF rm ((999 : Nat) : Int) = pr at HP b0 b1
  have HE := hid (engine_any s (1 + pr) w hs (by omega) (by omega))
  clear h1 hr
  go_enter Try.func3, Try.ntmps3
  go_wp2_with fail
  go_at_call 5
  refine (HP.out _).mono ?_
  rintro e w0 ⟨rfl, rfl⟩
  go_wp2_with fail
  go_at_call 4
  refine HE.out.mono ?_
  rintro e w1 (⟨rfl, hfr, _⟩ | ⟨x, r, rfl, hn, hroom, hsrc, hread, _⟩)
  · have HF := hid hfr
    clear hfr
    go_wp2_with fail
    go_ret
    exact ⟨rfl, HF.out.below (Nat.le_refl _) (by simp)⟩
  have HST := hid (ELoop.start hn (by omega))
  have HR : Hid (RulesP r.2.1 r.2.2) := hid (by rw [hsrc]; exact read_rulesP hread)
  clear hn hroom hsrc hread HE HP
  go_wp2_with fail
  go_loopw [9] (fun t wr => ∃ (k : Nat) (X : PEng) (F : Mks) (f : List Nat), k ≤ l1 ∧ t = .int .i64 k ∧ ELoop w0.heap.size x w0 k wr X F f r) (fun t _ => l1 - (intOf t).toNat)
  case atStart =>
    obtain ⟨f, h⟩ := HST.out
    exact ⟨0, X0 r, _, f, Nat.zero_le _, rfl, h⟩
  case round =>
    obtain ⟨k, X, F, f, hk, rfl, hL⟩ := hrel
    have HL := hid hL
    clear hL HST
    by_cases hlt : k < l1
    · obtain ⟨sb, off, rfl, hsb, hscr⟩ := HS1.out (by omega)
      obtain ⟨kk, n, c, s', c0, c1', c2', c3', hs'⟩ := hscr k hlt
      clear hscr HS1
      have hBe := HL.out.below
      have d0 := (hBe.cell (p := ⟨sb, off + k * 4, none⟩) hsb).trans c0
      have d1 := (hBe.cell (p := ⟨sb, off + k * 4 + 1, none⟩) hsb).trans c1'
      have d2 := (hBe.cell (p := ⟨sb, off + k * 4 + 2, none⟩) hsb).trans c2'
      have d3 := (hBe.cell (p := ⟨sb, off + k * 4 + 3, none⟩) hsb).trans c3'
      have HC := hid (HL.out.acts (by omega) HR.out kk n c s' (Nat.lt_of_le_of_lt hs' (by decide)))
      clear c0 c1' c2' c3' hBe hs'
      go_wp2_with fail
      go_at_call 6
      refine HC.out.mono ?_
      rintro e w2 ⟨rfl, ht⟩
      have HT := hid ht
      clear ht HC d0 d1 d2 d3
      go_wp2_with fail
      go_roundw
      case rel =>
        obtain ⟨f', h'⟩ := HT.out
        exact ⟨k + 1, _, _, f', by omega, by go_num, h'⟩
      case measure => simp [intOf]; omega
    · have hkl : k = l1 := by omega
      subst hkl
      go_wp2_with fail
      go_loopw [10] (fun t wr => ∃ (j : Nat) (X : PEng) (F : Mks) (f : List Nat), 1 ≤ j ∧ j ≤ k + 1 ∧ t = .int .i64 j ∧ ELoop w0.heap.size x w0 (k + j) wr X F f r ∧ X.opened ≤ k ∧ ∀ q, q < 8 → (X.ses q).num = 0 ∨ (j : Int) ≤ (X.ses q).num) (fun t _ => k + 1 - (intOf t).toNat)
      case atStart =>
        refine ⟨1, X, F, f, Nat.le_refl _, by omega, rfl, HL.out.up (by omega), HL.out.fit.opened.2, fun q hq => ?_⟩
        have := HL.out.fit.num q hq
        omega
      case round =>
        obtain ⟨j, X2, F2, f2, hj1, hj2, rfl, hL, hop, hnum⟩ := hrel
        have HL2 := hid hL
        have HNUM := hid hnum
        have HOP := hid hop
        clear hL hnum hop HL
        by_cases hlt2 : j ≤ k
        · have HC := hid (HL2.out.aborts (by omega) (j : Int))
          have HN2 := hid (abort_nums HL2.out.fit (by omega) HNUM.out)
          have HO2 : Hid ((pabortF X2 (j : Int)).2.opened ≤ k) := hid (by rw [pabort_opened]; exact HOP.out)
          go_wp2_with fail
          go_at_call 7
          refine HC.out.mono ?_
          rintro e w2 ⟨rfl, ht⟩
          have HT := hid ht
          clear ht HC
          go_wp2_with fail
          go_roundw
          case rel =>
            obtain ⟨f', h'⟩ := HT.out
            exact ⟨j + 1, _, _, f', by omega, by omega, by go_num, h', HO2.out, fun q hq => by have := HN2.out q hq; omega⟩
          case measure => simp [intOf]; omega
        · have H0 : Hid (∀ q, q < 8 → (X2.ses q).num = 0) := hid (fun q hq => by
            have h1 := HNUM.out q hq
            have h2 := HL2.out.fit.num q hq
            have h3 := HOP.out
            omega)
          have hk999 := HL2.out.fit.keptN
          have HK1 := hid (HL2.out.keeps (by omega))
          have hle := kept_swept_le X2 X2.latest 60
          obtain ⟨v1, v2, v3⟩ := empty_view HL2.out.fit H0.out
          have HPS1 : Hid (psweepF X2 = ((keptN X2 60 : Int) - (keptN (X2.swept X2.latest) 60 : Int), X2.swept X2.latest)) := hid (psweep_none H0.out)
          have HPS2 := hid (psweep_twice HL2.out.fit H0.out)
          obtain ⟨kb, hkb⟩ : ∃ kb, kb = keptN X2 60 := ⟨_, rfl⟩
          obtain ⟨ka, hka⟩ : ∃ ka, ka = keptN (X2.swept X2.latest) 60 := ⟨_, rfl⟩
          rw [← hkb] at HK1 HPS1 hk999 hle
          rw [← hka] at HPS1 v3 hle
          have HKA := hid hka
          obtain ⟨Y, hY⟩ : ∃ Y, Y = X2.swept X2.latest := ⟨_, rfl⟩
          rw [← hY] at HPS1 HPS2 HKA v1 v2 v3
          obtain ⟨on, hon⟩ : ∃ on, on = X2.opened + 1 := ⟨_, rfl⟩
          rw [← hon] at v1 v2 v3
          obtain ⟨vt, hvt⟩ : ∃ vt, vt = (pviewF (popenF Y).2 on).1 := ⟨_, rfl⟩
          rw [← hvt] at v3
          have HVT := hid hvt
          have HV1 := hid v1
          have HV2 := hid v2
          clear hkb hka hY hon hvt v1 v2
          go_wp2_with fail
          go_at_call 8
          refine HK1.out.mono ?_
          rintro e w2 ⟨rfl, ht⟩
          obtain ⟨fA, hLA⟩ := ht
          have HS1' := hid (hLA.sweeps (by omega))
          rw [HPS1.out] at HS1'
          clear hLA HK1
          go_wp2_with fail
          go_at_call 9
          refine HS1'.out.mono ?_
          rintro e w3 ⟨rfl, ht⟩
          obtain ⟨fB, hLB⟩ := ht
          try simp only at hLB
          have HK2 := hid (hLB.keeps (by omega))
          rw [← HKA.out] at HK2
          clear hLB HS1'
          go_wp2_with fail
          go_at_call 8
          refine HK2.out.mono ?_
          rintro e w4 ⟨rfl, ht⟩
          obtain ⟨fC, hLC⟩ := ht
          have HS2' := hid (hLC.sweeps (by omega))
          rw [HPS2.out] at HS2'
          clear hLC HK2
          go_wp2_with fail
          go_at_call 9
          refine HS2'.out.mono ?_
          rintro e w5 ⟨rfl, ht⟩
          obtain ⟨fD, hLD⟩ := ht
          try simp only at hLD
          have HO := hid (hLD.opens (by omega))
          rw [HV1.out] at HO
          clear hLD HS2'
          go_wp2_with fail
          go_at_call 10
          refine HO.out.mono ?_
          rintro e w6 ⟨rfl, ht⟩
          obtain ⟨fE, hLE⟩ := ht
          have HV := hid (hLE.views (by omega) on)
          rw [HV2.out, ← HVT.out] at HV
          clear hLE HO
          go_wp2_with fail
          go_at_call 11
          refine HV.out.mono ?_
          rintro e w7 ⟨rfl, ht⟩
          have HB : Hid (Below w0.heap.size w0 w7) := hid (by obtain ⟨_, h'⟩ := ht; exact h'.below)
          clear ht HV
          have hv3 : (vt.size : Int) = 3 * (ka : Int) := by omega
          go_wp2_with fail
          go_ret
          exact ⟨rfl, HB.out⟩

end Go.Proofs.Ythlhbjnkohinmab
