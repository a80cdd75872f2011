/- THE STATEMENT NEWS, PROVED. -/
import Derived.Test.YthlhbjnkohinmaaGreatRows
import Derived.Test.YthlhbjnkohinmaaGreatLaw2
import Derived.ProofKit
import Derived.OpenShut
import Derived.ShutString
import Derived.ChangeOld
import Derived.Below
import Derived.SizedLaws
import Derived.Deep.Slices
namespace Go.Proofs.YthlhbjnkohinmaaGreat
open Go.ChangeShapes Go.WideShapes Go.ChangeAt Go.RowKit Go.Deep

theorem Tryz.own : ownKnob Tryz.prog.godebug = none := by kernel_rfl
theorem Tryz.laidOut : laidOutB Tryz.prog = true := by kernel_rfl

/-- What is known of a script that came in. -/
def IsScript (w : World) (a : Option Addr) (len : Nat) : Prop := len = 0 ∨ ∃ sb off, a = some ⟨sb, off, none⟩ ∧ sb < w.heap.size ∧ ∀ t, t < len → ∃ k a b c s, StepAt w sb (off + t * 5) k a b c s

set_option maxRecDepth 20000 in
set_option maxHeartbeats 1000000 in
theorem upTo_none (w : World) (a : Option Addr) (cap : Nat) :
    Calls Tryz.prog 9 #[.slice a 0 cap, .int .i64 1, .bool false, .int .i64 1, .int .i64 1] w fun e w' => e = .returned (.int .i64 (-1)) ∧ Below w.heap.size w w' := by
  go_enter Tryz.func9, Tryz.ntmps9
  go_wp2_with fail
  refine wp_loop_rounds 1 ?_
  rw [rounds_succ]
  go_wp2
  go_ret
  exact ⟨rfl, (Below.refl _ w).alloc (Nat.le_refl _) _⟩

theorem news_walk (w : World) (a : Option Addr) (len cap : Nat) (h : IsScript w a len) (hlen : len * 48 ≤ 140737488351232) :
    Calls Tryz.prog 3 #[.slice a len cap] w fun e w' => e = .returned (.bool true) ∧ Below w.heap.size w w' := by
  have HU : Hid (Calls Tryz.prog 9 #[.slice a len cap, .int .i64 1, .bool false, .int .i64 1, .int .i64 1] w fun e w' => e = .returned (.int .i64 (-1)) ∧ Below w.heap.size w w') := by
    rcases h with rfl | ⟨sb, off, rfl, h1, h2⟩
    · exact upTo_none w a cap
    · exact upTo_news w sb off len cap h1 hlen h2
  clear h
  go_enter Tryz.func3, Tryz.ntmps3
  go_wp2_with fail
  go_at_call 9
  refine HU.out.mono ?_
  rintro e w1 ⟨rfl, hb⟩
  go_wp2
  go_ret
  exact ⟨rfl, hb⟩

theorem Tryz.bytes30 : Tryz.prog.bytesOf 30 = 48 := by kernel_rfl
theorem Tryz.cells30 : Tryz.prog.cellsOf 30 = 5 := by kernel_rfl
theorem Tryz.cells3 : Tryz.prog.cellsOf 3 = 1 := by kernel_rfl
theorem Tryz.cells9 : Tryz.prog.cellsOf 9 = 1 := by kernel_rfl

theorem list5 {α : Type} {l : List α} (h : l.length = 5) : ∃ a b c d e, l = [a, b, c, d, e] := by
  match l, h with
  | [a, b, c, d, e], _ => exact ⟨a, b, c, d, e, rfl⟩

/-- A script that came in, opened. -/
theorem script_open {H : Type} {enc : TypeId × Value → H} {w : World} {base : Nat} {spare : Nat → Bool} {held : Bool} {fuel : Nat} {a : Option Addr} {len cap : Nat} {x : DataW H × List MemPlace}
    (h : DataW.trod enc Tryz.prog w base spare held fuel 22 [.slice a len cap] = some x) :
    IsScript w a len ∧ ∃ elems sp, (x.1 = .nil ∧ len = 0) ∨ (x.1 = .slice elems sp ∧ elems.length = len) := by
  rcases open_slice Tryz.underlying22 h with ⟨hcs, hx⟩ | ⟨ad, l, c, m, n, D, Pl, hcs, hb, hl, hm, hmm, hx, hel⟩
  · simp at hcs
    obtain ⟨rfl, rfl, rfl⟩ := hcs
    exact ⟨.inl rfl, [], [], .inl ⟨by rw [hx], rfl⟩⟩
  · simp at hcs
    obtain ⟨rfl, rfl, rfl⟩ := hcs
    refine ⟨?_, _, _, .inr ⟨by rw [hx], by simp⟩⟩
    by_cases h0 : len = 0
    · exact .inl h0
    right
    have hlm : len ≤ m := by rw [hmm]; split <;> omega
    have each : ∀ i, i < m → ∃ k a b c s, w.cell? (ad.add (i * 5)) = some (.int .i64 k) ∧ w.cell? (ad.add (i * 5 + 1)) = some (.int .i64 a) ∧ w.cell? (ad.add (i * 5 + 2)) = some (.int .i64 b) ∧ w.cell? (ad.add (i * 5 + 3)) = some (.int .i64 c) ∧ w.cell? (ad.add (i * 5 + 4)) = some (.string s) ∧ (Lit.int .i64 a).wf = true ∧ s.size ≤ maxLen := by
      intro i hi
      obtain ⟨cs', h1, h2⟩ := hel i hi
      rw [Tryz.cells30] at h1
      obtain ⟨_, hlen, hcell⟩ := World.cells?_some h1
      obtain ⟨xs, k, hk, hxy, _, hxl, hf⟩ := DataW.trod_struct Tryz.underlying30 h2
      obtain ⟨y0, y1, y2, y3, y4, rfl⟩ := list5 (show xs.length = 5 from hxl)
      obtain ⟨v0, v1, v2, v3, v4, rfl⟩ := list5 hlen
      have g0 := hf 0 _ rfl
      have g1 := hf 1 _ rfl
      have g2 := hf 2 _ rfl
      have g3 := hf 3 _ rfl
      have g4 := hf 4 _ rfl
      simp [Tryz.cells3, Tryz.cells9] at g0 g1 g2 g3 g4
      obtain ⟨n0, q0, _, _⟩ := DataW.trod_int Tryz.underlying3 g0
      obtain ⟨n1, q1, _, w1⟩ := DataW.trod_int Tryz.underlying3 g1
      obtain ⟨n2, q2, _, _⟩ := DataW.trod_int Tryz.underlying3 g2
      obtain ⟨n3, q3, _, _⟩ := DataW.trod_int Tryz.underlying3 g3
      obtain ⟨s, q4, _, w4⟩ := DataW.trod_string Tryz.underlying9 g4
      simp at q0 q1 q2 q3 q4
      subst q0 q1 q2 q3 q4
      have e0 := hcell 0 (by omega)
      have e1 := hcell 1 (by omega)
      have e2 := hcell 2 (by omega)
      have e3 := hcell 3 (by omega)
      have e4 := hcell 4 (by omega)
      rw [add_add] at e0 e1 e2 e3 e4
      exact ⟨n0, n1, n2, n3, s, by simpa using e0, by simpa using e1, by simpa using e2, by simpa using e3, by simpa using e4, w1, w4⟩
    obtain ⟨b, off, spot⟩ := ad
    obtain ⟨_, _, _, _, _, hc0, _⟩ := each 0 (by omega)
    have hspot : spot = none := by simpa [Addr.add] using World.cell?_spot hc0
    subst hspot
    have hadd : ∀ j, (⟨b, off, none⟩ : Addr).add j = ⟨b, off + j, none⟩ := by intro j; unfold Addr.add; split <;> simp_all
    refine ⟨b, off, rfl, ?_, ?_⟩
    · exact World.block_lt_of_cell? w _ hc0
    · intro t ht
      obtain ⟨k, a, b', c, s, e0, e1, e2, e3, e4, w1, w4⟩ := each t (by omega)
      rw [hadd] at e0 e1 e2 e3 e4
      have hbd := bounds_i64 w1
      exact ⟨k, a, b', c, s, e0, e1, e2, e3, e4, hbd.1, hbd.2, w4⟩

set_option maxRecDepth 100000 in
theorem news_lifted (os : Os) (started : os.Started) (H : Type) (enc : TypeId × Value → H) :
    ReturnsInHanded {} Tryz.checked os 3 .any (Rows.newsSpec.pre6 enc Tryz.prog Tryz.f3 Rows.newsRow.domain false) (Rows.newsSpec.post enc Tryz.prog Tryz.f3 false true false false) := by
  refine returnsInHanded_of_change_sized (C := Tryz.checked) Tryz.own started (by kernel_rfl) Tryz.func3
    (ChangeSpec.witness6 (enc := enc) (C := Tryz.checked) false ⟨#[], #[.slice none 0 0], []⟩ 8 (by kernel_rfl) (by kernel_rfl) (by kernel_rfl) (by kernel_rfl)) ?_
  intro W base args ds gs before hval0 hW _ hsz0 _
  have hsz : (DataW.weightsEach Tryz.prog (Tryz.f3.params.toList ++ Rows.newsSpec.plain.varTypes Tryz.prog) (ds ++ gs)).all (· ≤ reachBytes) = true := hsz0
  clear hsz0
  have hval : ∀ (j : Nat) t v, Tryz.f3.params[j]? = some t → args[j]? = some v → Value.okWide Tryz.prog W .any base t v := hval0
  have hW' := hW
  obtain ⟨p, q, hA0, hV, rfl, _, _⟩ := hW
  have hA : DataW.TrodAll enc Tryz.prog W 0 (fun _ => true) true Tryz.f3.params.toList args.toList ds p := hA0
  rw [Tryz.params3] at hA hval hsz
  obtain ⟨v0, d0, rfl, rfl, h0⟩ := trodAll_one hA
  obtain ⟨rfl, rfl⟩ := trodVars_none hV
  obtain ⟨a0, len0, cap0, rfl⟩ := okWide_slice Tryz.underlying22 (hval 0 22 v0 rfl rfl)
  have k0 := h0
  have lt0 : ∀ x ∈ p, x.block < W.heap.size := by obtain ⟨m, hm⟩ := k0; exact DataW.trod_lt m _ _ _ hm
  have hs0 : IsScript W a0 len0 ∧ len0 * 48 ≤ 140737488351232 := by
    obtain ⟨fuel, hf⟩ := h0
    obtain ⟨hs, elems, sp, hd | hd⟩ := script_open (by simpa [Value.cells] using hf)
    · exact ⟨hs, by rw [hd.2]; omega⟩
    · refine ⟨hs, ?_⟩
      obtain ⟨rfl, hel⟩ := hd
      have := sized_slice hsz (j := 0) (t := 22) (e := 30) rfl rfl Tryz.underlying22
      rw [Tryz.bytes30] at this
      simp only [reachBytes] at this
      omega
  clear hA0 hval0
  refine (news_walk W a0 len0 cap0 hs0.1 hs0.2).mono fun e W' ⟨he, bel⟩ => ?_
  subst he
  exact ⟨_, rfl, _, _, _, [], _, [], hW', trodAll_mk1 (shut_bool Tryz.underlying4 _), trodAll_mk1 (Below.trod Tryz.laidOut (by kernel_rfl) (of_decide_eq_true (by kernel_rfl)) k0 bel lt0), rfl, bel.frame _, fun h => by cases h⟩

theorem news_holds : Rows.NewsSaid :=
  OpenClaim.holds_of_wide 3 Tryz.f3 rfl rfl rfl rfl rfl rfl rfl ⟨rfl, rfl, rfl, rfl, rfl⟩ rfl rfl rfl rfl rfl (by kernel_rfl) Tryz.func3 (by kernel_rfl)
    (of_decide_eq_true (by kernel_rfl)) (by unfold Func.isWrapper; first | (rw [if_pos (by decide +kernel)]; kernel_rfl) | (rw [if_neg (by decide +kernel)]; exact ⟨rfl, rfl⟩))
    (fun os started H enc _ => news_lifted os started H enc)

#print axioms news_holds

end Go.Proofs.YthlhbjnkohinmaaGreat
