/- The statements without the document's answer: an engine that works, and one of given rules. -/
import Derived.Test.YthlhbjnkohinmaaPcalls
namespace Go.Proofs.Ythlhbjnkohinmaa
open Go.RowKit

/-- The engine's blocks are all new. -/
def NewTo (x : Nat) (X : PEng) (w w' : World) : Prop := ∃ f, PEngA x X w' f ∧ f.Nodup ∧ (∀ y ∈ f, w.heap.size ≤ y) ∧ Fr [] w w'
theorem NewTo.step {x : Nat} {X X' : PEng} {w w1 w2 : World} (h : NewTo x X w w1) (k : ∀ f, PEngA x X w1 f → f.Nodup → ATo (PEngA x X') f w1 w2) : NewTo x X' w w2 := by
  obtain ⟨f, a, n, s, r⟩ := h
  obtain ⟨f2, a2, n2, s2, r2⟩ := k f a n
  refine ⟨f2, a2, n2, fun y hy => ?_, fr_new r r2 s⟩
  rcases s2 y hy with h | h
  · exact s y h
  · exact Nat.le_trans r.size h
theorem NewTo.quiet {x : Nat} {X : PEng} {w w1 w2 : World} (h : NewTo x X w w1) (k : Fr [] w1 w2) : NewTo x X w w2 := by
  obtain ⟨f, a, n, s, r⟩ := h
  exact ⟨f, PEngA.framed _ _ a k (by simp), n, s, r.trans k⟩
/-- A call on such an engine. -/
theorem NewTo.call {x : Nat} {X X' : PEng} {w w1 : World} {F : Nat} {args : Array Value} {v : Value} (h : NewTo x X w w1) (k : ∀ f, PEngA x X w1 f → f.Nodup → Calls Try.prog F args w1 fun e w' => e = .returned v ∧ ATo (PEngA x X') f w1 w') :
    Calls Try.prog F args w1 fun e w' => e = .returned v ∧ NewTo x X' w w' := by
  obtain ⟨f, a, n, s, r⟩ := h
  refine (k f a n).mono ?_
  rintro e w' ⟨rfl, f2, a2, n2, s2, r2⟩
  refine ⟨rfl, f2, a2, n2, fun y hy => ?_, fr_new r r2 s⟩
  rcases s2 y hy with h | h
  · exact s y h
  · exact Nat.le_trans r.size h
theorem NewTo.see {x : Nat} {X : PEng} {w w1 : World} {F : Nat} {args : Array Value} {v : Value} (h : NewTo x X w w1) (k : ∀ f, PEngA x X w1 f → Calls Try.prog F args w1 fun e w' => e = .returned v ∧ Fr [] w1 w') :
    Calls Try.prog F args w1 fun e w' => e = .returned v ∧ NewTo x X w w' := by
  obtain ⟨f, a, n, s, r⟩ := h
  refine (k f a).mono ?_
  rintro e w' ⟨rfl, r2⟩
  exact ⟨rfl, f, PEngA.framed _ _ a r2 (by simp), n, s, r.trans r2⟩

set_option maxRecDepth 20000 in
set_option maxHeartbeats 2000000 in
theorem works_any (w : World) : Calls Try.prog 26 #[] w fun e w' => e = .returned (.bool true) ∧ Fr [] w w' := by
  have HN := hid (pnew_to s0 9 w (by decide) (fun x p o h => read0 h) (by decide) (by decide))
  have HO : Hid (∀ r x W, NewTo x (X0 r) w W → Calls Try.prog 13 #[.pointer (some ⟨x, 0, none⟩)] W fun e w' => e = .returned (.tuple #[.int .i64 1, .int .i64 0]) ∧ NewTo x (W1 r) w w') := hid (fun r x W h => h.call (fun f a n => by
    have := popen_to x (X0 r) f W a n (by show (0 : Int) ≤ 0 ∧ (0 : Int) < 9223372036854775807; omega)
    rw [w_open r] at this
    exact this))
  have HP : Hid (∀ r x W, NewTo x (W1 r) w W → Calls Try.prog 34 #[.pointer (some ⟨x, 0, none⟩), .int .i64 1, .string a37] W fun e w' => e = .returned (.int .i64 0) ∧ NewTo x (W2 r) w w') := hid (fun r x W h => h.call (fun f a n => by
    have := pput_to x (W1 r) f 1 a37 W a n (by decide +kernel) (fun k hf => (w_few r).more (by omega) hf)
    rw [w_put r] at this
    exact this))
  have HV : Hid (∀ r x W, NewTo x (W2 r) w W → Calls Try.prog 14 #[.pointer (some ⟨x, 0, none⟩), .int .i64 1] W fun e w' => e = .returned (.tuple #[.string a37, .int .i64 0]) ∧ NewTo x (W2 r) w w') := hid (fun r x W h => h.see (fun f a => by
    have := pview_to x (W2 r) f 1 W a (fun c hc => by have := w_hist r c hc; omega) (w_digs r)
    rw [w_view r] at this
    exact this))
  have HC : Hid (∀ r x W, r.1.2 = 9 → NewTo x (W2 r) w W → Calls Try.prog 36 #[.pointer (some ⟨x, 0, none⟩), .int .i64 1] W fun e w' => e = .returned (.tuple #[.int .i64 1, .int .i64 0]) ∧ NewTo x (W3 r) w w') := hid (fun r x W h9 h => h.call (fun f a n => by
    have := pcommit_any x (W2 r) f 1 W a n (by show (0 : Int) ≤ 0 ∧ (0 : Int) < 9223372036854775807; omega) (fun c hc => by have := w_hist r c hc; omega) (w_room r h9).1 (w_room r h9).2
    rw [w_commit r] at this
    exact this))
  have HO2 : Hid (∀ r x W, NewTo x (W3 r) w W → Calls Try.prog 13 #[.pointer (some ⟨x, 0, none⟩)] W fun e w' => e = .returned (.tuple #[.int .i64 2, .int .i64 0]) ∧ NewTo x (W4 r) w w') := hid (fun r x W h => h.call (fun f a n => by
    have := popen_to x (W3 r) f W a n (by rw [w_three r]; omega)
    rw [w_open2 r] at this
    exact this))
  have HV2 : Hid (∀ r x W, NewTo x (W4 r) w W → Calls Try.prog 14 #[.pointer (some ⟨x, 0, none⟩), .int .i64 2] W fun e w' => e = .returned (.tuple #[.string a37, .int .i64 0]) ∧ NewTo x (W4 r) w w') := hid (fun r x W h => h.see (fun f a => by
    have := pview_to x (W4 r) f 2 W a (fun c hc => by have := w_hist4 r c hc; omega) (w_digs2 r)
    rw [w_view2 r] at this
    exact this))
  unfold s0 at HN
  unfold a37 at HP HV HV2
  go_enter Try.func26, Try.ntmps26
  go_wp2_with fail
  go_at_call 27
  refine HN.out.mono ?_
  rintro e w1 ⟨x, rfl, hxw, ⟨r, hpe, h9⟩, hfr⟩
  have H9 := hid h9
  have H1 : Hid (NewTo x (X0 r) w w1) := hid ⟨[x], hpe, by simp, fun y hy => by simp at hy; omega, hfr⟩
  clear hpe hfr hxw h9
  go_wp2_with fail
  go_at_call 13
  refine (HO.out _ _ _ H1.out).mono ?_
  rintro e w2 ⟨rfl, h2⟩
  have H2 := hid h2
  clear h2
  go_wp2_with fail
  go_at_call 34
  refine (HP.out _ _ _ H2.out).mono ?_
  rintro e w3 ⟨rfl, h3⟩
  have H3 := hid h3
  clear h3
  go_wp2_with fail
  go_at_call 14
  refine (HV.out _ _ _ H3.out).mono ?_
  rintro e w4 ⟨rfl, h4⟩
  have H4 := hid h4
  clear h4
  go_wp2_with fail
  go_at_call 36
  refine (HC.out _ _ _ H9.out H4.out).mono ?_
  rintro e w5 ⟨rfl, h5⟩
  have H5 := hid h5
  clear h5
  go_wp2_with fail
  go_at_call 13
  refine (HO2.out _ _ _ H5.out).mono ?_
  rintro e w6 ⟨rfl, h6⟩
  have H6 := hid h6
  clear h6
  go_wp2_with fail
  go_at_call 14
  refine (HV2.out _ _ _ H6.out).mono ?_
  rintro e w7 ⟨rfl, h7⟩
  have H7 := hid h7
  clear h7
  go_wp2_with fail
  go_ret
  obtain ⟨_, _, _, _, r⟩ := H7.out
  exact ⟨rfl, r⟩

set_option maxRecDepth 20000 in
set_option maxHeartbeats 1000000 in
/-- engine of a text that is read. -/
theorem engine_ok (s : ByteArray) (room : Int) (w : World) (hs : s.size ≤ maxLen) (hr : ∀ x p o, ReadAns s x p o → x = 0) (h1 : 1 ≤ room) (h2 : room ≤ 999) :
    Calls Try.prog 9 #[.string s, .int .i64 room] w fun e w' => ∃ x, e = .returned (.tuple #[.pointer (some ⟨x, 0, none⟩), .bool true]) ∧ ∃ r, NewTo x (X0 r) w w' ∧ r.1.2 = room := by
  have HW := hid (works_any w)
  have HN := hid (fun W => pnew_to s room W hs hr h1 h2)
  clear hr
  go_enter Try.func9, Try.ntmps9
  go_wp2_with fail
  go_at_call 26
  refine HW.out.mono ?_
  rintro e w1 ⟨rfl, hf1⟩
  have HF1 := hid hf1
  clear hf1
  go_wp2_with fail
  go_at_call 27
  refine (HN.out _).mono ?_
  rintro e w2 ⟨x, rfl, hxw, ⟨r, hpe, hrm⟩, hfr⟩
  have HRM := hid hrm
  have H1 : Hid (NewTo x (X0 r) w w2) := hid ⟨[x], hpe, by simp, fun y hy => by have := HF1.out.size; simp at hy; omega, HF1.out.trans hfr⟩
  clear hpe hfr hxw hrm
  go_wp2_with fail
  go_ret2
  exact ⟨x, rfl, r, H1.out, HRM.out⟩

end Go.Proofs.Ythlhbjnkohinmaa
