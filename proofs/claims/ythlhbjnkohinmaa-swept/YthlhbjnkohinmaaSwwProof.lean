/- THE STATEMENT SWEPT, PROVED. -/
import Derived.Test.YthlhbjnkohinmaaPart00
import Derived.Test.YthlhbjnkohinmaaPart23
import Derived.Carry
namespace Go.Proofs.Ythlhbjnkohinmaa
open Go.ChangeShapes Go.WideShapes Go.ChangeAt Go.RowKit Go.Deep

theorem Try.bytes3 : Try.prog.bytesOf 3 = 8 := by kernel_rfl
/-- Numbers that came in, opened. -/
theorem ints_open {H : Type} {enc : TypeId × Value → H} {w : World} {base : Nat} {spare : Nat → Bool} {held : Bool} {fuel : Nat} {a : Option Addr} {len cap : Nat} {x : DataW H × List MemPlace}
    (h : DataW.trod enc Try.prog w base spare held fuel 61 [.slice a len cap] = some x) :
    IsInts w a len ∧ ∃ elems sp, (x.1 = .nil ∧ len = 0) ∨ (x.1 = .slice elems sp ∧ elems.length = len) := by
  rcases open_slice Try.underlying61 h with ⟨hcs, hx⟩ | ⟨ad, l, c, m, n, D, Pl, hcs, hb, hl, hm, hmm, hx, hel⟩
  · simp at hcs
    obtain ⟨rfl, rfl, rfl⟩ := hcs
    exact ⟨.inl rfl, [], [], .inl ⟨by rw [hx], rfl⟩⟩
  · simp at hcs
    obtain ⟨rfl, rfl, rfl⟩ := hcs
    refine ⟨?_, _, _, .inr ⟨by rw [hx], by simp⟩⟩
    by_cases h0 : len = 0
    · exact .inl h0
    right
    have hlm : len ≤ m := by rw [hmm]; split <;> omega
    have each : ∀ i, i < m → ∃ n, w.cell? (ad.add i) = some (.int .i64 n) ∧ -9223372036854775808 ≤ n ∧ n ≤ 9223372036854775807 := by
      intro i hi
      obtain ⟨cs', h1, h2⟩ := hel i hi
      rw [Try.cells3] at h1
      obtain ⟨_, hlen, hcell⟩ := World.cells?_some h1
      obtain ⟨n0, q0, _, hw⟩ := DataW.trod_int Try.underlying3 h2
      subst q0
      have e0 := hcell 0 (by simp)
      rw [add_add] at e0
      simp [Lit.wf, IntKind.min, IntKind.max, IntKind.signed, IntKind.bits] at hw
      exact ⟨n0, by simpa using e0, by omega, by omega⟩
    obtain ⟨b, off, spot⟩ := ad
    obtain ⟨_, hc0, _⟩ := each 0 (by omega)
    have hspot : spot = none := by simpa [Addr.add] using World.cell?_spot hc0
    subst hspot
    have hadd : ∀ j, (⟨b, off, none⟩ : Addr).add j = ⟨b, off + j, none⟩ := by intro j; unfold Addr.add; split <;> simp_all
    refine ⟨b, off, rfl, ?_, ?_⟩
    · exact World.block_lt_of_cell? w _ hc0
    · intro t ht
      obtain ⟨n, e0, w1, w2⟩ := each t (by omega)
      rw [hadd] at e0
      exact ⟨n, e0, w1, w2⟩
theorem ints_sized {H : Type} {enc : TypeId × Value → H} {W : World} {ts : List TypeId} {ds : List (DataW H)} {a : Option Addr} {len cap : Nat} {d : DataW H} {p : List MemPlace} {j : Nat}
    (h : DataW.Trod enc Try.prog W 0 (fun _ => true) true 61 (.slice a len cap) d p) (hsz : (DataW.weightsEach Try.prog ts ds).all (· ≤ reachBytes) = true) (ht : ts[j]? = some 61) (hd : ds[j]? = some d) : IsInts W a len ∧ len * 8 ≤ 140737488351232 := by
  obtain ⟨fuel, hf⟩ := h
  obtain ⟨hs, elems, sp, he | he⟩ := ints_open (by simpa [Value.cells] using hf)
  · exact ⟨hs, by rw [he.2]; omega⟩
  · refine ⟨hs, ?_⟩
    obtain ⟨rfl, hel⟩ := he
    have := sized_slice hsz (j := j) (t := 61) (e := 3) ht hd Try.underlying61
    rw [Try.bytes3] at this
    simp only [reachBytes] at this
    omega

set_option maxRecDepth 100000 in
theorem swept_lifted (os : Os) (started : os.Started) (H : Type) (enc : TypeId × Value → H) :
    ReturnsInHanded {} Try.checked os 8 .any (Rows.sweptSpec.pre6 enc Try.prog Try.f8 Rows.sweptRow.domain false) (Rows.sweptSpec.post enc Try.prog Try.f8 false true false false) := by
  refine returnsInHanded_of_change_sized (C := Try.checked) Try.own started (by kernel_rfl) Try.func8
    (ChangeSpec.witness6 (enc := enc) (C := Try.checked) false ⟨#[], #[.string ByteArray.empty, .int .i64 0, .slice none 0 0, .slice none 0 0], []⟩ 8 (by kernel_rfl) (by kernel_rfl) (by kernel_rfl) (by kernel_rfl)) ?_
  intro W base args ds gs before hval0 hW _ hsz0 _
  have hsz : (DataW.weightsEach Try.prog (Try.f8.params.toList ++ Rows.sweptSpec.plain.varTypes Try.prog) (ds ++ gs)).all (· ≤ reachBytes) = true := hsz0
  clear hsz0
  have hval : ∀ (j : Nat) t v, Try.f8.params[j]? = some t → args[j]? = some v → Value.okWide Try.prog W .any base t v := hval0
  have hW' := hW
  obtain ⟨p, q, hA0, hV, rfl, _, _⟩ := hW
  have hA : DataW.TrodAll enc Try.prog W 0 (fun _ => true) true Try.f8.params.toList args.toList ds p := hA0
  rw [Try.params8] at hA hval hsz
  obtain ⟨v0, v1, v2, v3, d0, d1, d2, d3, p0, p1, p2, p3, rfl, rfl, rfl, h0, h1, h2, h3⟩ := trodAll_four hA
  obtain ⟨rfl, rfl⟩ := trodVars_none hV
  obtain ⟨s, rfl⟩ := okWide_string Try.underlying9 (hval 0 9 v0 rfl rfl)
  obtain ⟨n1, rfl⟩ := okWide_int Try.underlying3 (hval 1 3 v1 rfl rfl)
  obtain ⟨a1, l1, c1, rfl⟩ := okWide_slice Try.underlying22 (hval 2 22 v2 rfl rfl)
  obtain ⟨a2, l2, c2, rfl⟩ := okWide_slice Try.underlying61 (hval 3 61 v3 rfl rfl)
  have lt : ∀ {t : TypeId} {v : Value} {d : DataW H} {pp : List MemPlace}, DataW.Trod enc Try.prog W 0 (fun _ => true) true t v d pp → ∀ x ∈ pp, x.block < W.heap.size := fun h => by obtain ⟨m, hm⟩ := h; exact DataW.trod_lt m _ _ _ hm
  have hs := text_sized h0
  have q1 := script_sized (j := 2) h2 hsz rfl rfl
  have q2 := ints_sized (j := 3) h3 hsz rfl rfl
  clear hA0 hval0
  refine (swept_all W s n1 a1 a2 l1 c1 l2 c2 hs (int_sized h1) q1.1 q1.2 q2.1 q2.2).mono fun e W' ⟨he, bel⟩ => ?_
  subst he
  exact ⟨_, rfl, _, _, _, [], _, [], hW', trodAll_mk1 (shut_bool Try.underlying4 _), trodAll_mk4 (Below.trod Try.laidOut (by kernel_rfl) (of_decide_eq_true (by kernel_rfl)) h0 bel (lt h0)) (Below.trod Try.laidOut (by kernel_rfl) (of_decide_eq_true (by kernel_rfl)) h1 bel (lt h1)) (Below.trod Try.laidOut (by kernel_rfl) (of_decide_eq_true (by kernel_rfl)) h2 bel (lt h2)) (Below.trod Try.laidOut (by kernel_rfl) (of_decide_eq_true (by kernel_rfl)) h3 bel (lt h3)), rfl, bel.frame _, fun h => by cases h⟩

theorem swept_holds : Rows.SweptSaid :=
  OpenClaim.holds_of_wide 8 Try.f8 rfl rfl rfl rfl rfl rfl rfl ⟨rfl, rfl, rfl, rfl, rfl⟩ rfl rfl rfl rfl rfl (by kernel_rfl) Try.func8 (by kernel_rfl)
    (of_decide_eq_true (by kernel_rfl)) (by unfold Func.isWrapper; first | (rw [if_pos (by decide +kernel)]; kernel_rfl) | (rw [if_neg (by decide +kernel)]; exact ⟨rfl, rfl⟩))
    (fun os started H enc _ => swept_lifted os started H enc)

#print axioms swept_holds

end Go.Proofs.Ythlhbjnkohinmaa
