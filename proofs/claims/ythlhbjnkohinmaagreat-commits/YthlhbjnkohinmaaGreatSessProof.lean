/- THE STATEMENT SESSIONS, PROVED. -/
import Derived.Test.YthlhbjnkohinmaaGreatNewsProof
import Derived.Test.YthlhbjnkohinmaaGreatLawS4
namespace Go.Proofs.YthlhbjnkohinmaaGreat
open Go.ChangeShapes Go.WideShapes Go.ChangeAt Go.RowKit Go.Deep

set_option maxRecDepth 20000 in
set_option maxHeartbeats 1000000 in
theorem upTo_void (w : World) (a : Option Addr) (cap : Nat) (last lo hi : Int) :
    Calls Tryz.prog 9 #[.slice a 0 cap, .int .i64 last, .bool true, .int .i64 lo, .int .i64 hi] w fun e w' => e = .returned (.int .i64 (-1)) ∧ Below w.heap.size w w' := by
  go_enter Tryz.func9, Tryz.ntmps9
  go_wp2_with fail
  refine wp_loop_rounds 1 ?_
  rw [rounds_succ]
  go_wp2
  go_ret
  exact ⟨rfl, (Below.refl _ w).alloc (Nat.le_refl _) _⟩
theorem upTo_any (w : World) (a : Option Addr) (len cap : Nat) (last lo hi : Int) (hok : StepOk last) (h : IsScript w a len) (hlen : len * 48 ≤ 140737488351232) :
    Calls Tryz.prog 9 #[.slice a len cap, .int .i64 last, .bool true, .int .i64 lo, .int .i64 hi] w fun e w' => e = .returned (.int .i64 (-1)) ∧ Below w.heap.size w w' := by
  rcases h with rfl | ⟨sb, off, rfl, h1, h2⟩
  · exact upTo_void w a cap last lo hi
  · exact upTo_all last lo hi hok w sb off len cap h1 hlen h2

theorem sess_walk (w : World) (a : Option Addr) (len cap : Nat) (h : IsScript w a len) (hlen : len * 48 ≤ 140737488351232) :
    Calls Tryz.prog 4 #[.slice a len cap] w fun e w' => e = .returned (.bool true) ∧ Below w.heap.size w w' := by
  have HU := hid (upTo_any w a len cap 6 2 6 stepOk_six h hlen)
  clear h
  go_enter Tryz.func4, Tryz.ntmps4
  go_wp2_with fail
  go_at_call 9
  refine HU.out.mono ?_
  rintro e w1 ⟨rfl, hb⟩
  have HB := hid hb
  clear hb
  go_wp2
  go_ret
  exact ⟨rfl, HB.out⟩

set_option maxRecDepth 100000 in
theorem sess_lifted (os : Os) (started : os.Started) (H : Type) (enc : TypeId × Value → H) :
    ReturnsInHanded {} Tryz.checked os 4 .any (Rows.sessionsSpec.pre6 enc Tryz.prog Tryz.f4 Rows.sessionsRow.domain false) (Rows.sessionsSpec.post enc Tryz.prog Tryz.f4 false true false false) := by
  refine returnsInHanded_of_change_sized (C := Tryz.checked) Tryz.own started (by kernel_rfl) Tryz.func4
    (ChangeSpec.witness6 (enc := enc) (C := Tryz.checked) false ⟨#[], #[.slice none 0 0], []⟩ 8 (by kernel_rfl) (by kernel_rfl) (by kernel_rfl) (by kernel_rfl)) ?_
  intro W base args ds gs before hval0 hW _ hsz0 _
  have hsz : (DataW.weightsEach Tryz.prog (Tryz.f4.params.toList ++ Rows.sessionsSpec.plain.varTypes Tryz.prog) (ds ++ gs)).all (· ≤ reachBytes) = true := hsz0
  clear hsz0
  have hval : ∀ (j : Nat) t v, Tryz.f4.params[j]? = some t → args[j]? = some v → Value.okWide Tryz.prog W .any base t v := hval0
  have hW' := hW
  obtain ⟨p, q, hA0, hV, rfl, _, _⟩ := hW
  have hA : DataW.TrodAll enc Tryz.prog W 0 (fun _ => true) true Tryz.f4.params.toList args.toList ds p := hA0
  rw [Tryz.params4] at hA hval hsz
  obtain ⟨v0, d0, rfl, rfl, h0⟩ := trodAll_one hA
  obtain ⟨rfl, rfl⟩ := trodVars_none hV
  obtain ⟨a0, len0, cap0, rfl⟩ := okWide_slice Tryz.underlying22 (hval 0 22 v0 rfl rfl)
  have k0 := h0
  have lt0 : ∀ x ∈ p, x.block < W.heap.size := by obtain ⟨m, hm⟩ := k0; exact DataW.trod_lt m _ _ _ hm
  have hs0 : IsScript W a0 len0 ∧ len0 * 48 ≤ 140737488351232 := by
    obtain ⟨fuel, hf⟩ := h0
    obtain ⟨hs, elems, sp, hd | hd⟩ := script_open (by simpa [Value.cells] using hf)
    · exact ⟨hs, by rw [hd.2]; omega⟩
    · refine ⟨hs, ?_⟩
      obtain ⟨rfl, hel⟩ := hd
      have := sized_slice hsz (j := 0) (t := 22) (e := 30) rfl rfl Tryz.underlying22
      rw [Tryz.bytes30] at this
      simp only [reachBytes] at this
      omega
  clear hA0 hval0
  refine (sess_walk W a0 len0 cap0 hs0.1 hs0.2).mono fun e W' ⟨he, bel⟩ => ?_
  subst he
  exact ⟨_, rfl, _, _, _, [], _, [], hW', trodAll_mk1 (shut_bool Tryz.underlying4 _), trodAll_mk1 (Below.trod Tryz.laidOut (by kernel_rfl) (of_decide_eq_true (by kernel_rfl)) k0 bel lt0), rfl, bel.frame _, fun h => by cases h⟩

theorem sessions_holds : Rows.SessionsSaid :=
  OpenClaim.holds_of_wide 4 Tryz.f4 rfl rfl rfl rfl rfl rfl rfl ⟨rfl, rfl, rfl, rfl, rfl⟩ rfl rfl rfl rfl rfl (by kernel_rfl) Tryz.func4 (by kernel_rfl)
    (of_decide_eq_true (by kernel_rfl)) (by unfold Func.isWrapper; first | (rw [if_pos (by decide +kernel)]; kernel_rfl) | (rw [if_neg (by decide +kernel)]; exact ⟨rfl, rfl⟩))
    (fun os started H enc _ => sess_lifted os started H enc)

#print axioms sessions_holds

end Go.Proofs.YthlhbjnkohinmaaGreat
