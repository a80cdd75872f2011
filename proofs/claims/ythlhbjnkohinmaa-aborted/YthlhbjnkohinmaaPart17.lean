import Derived.Test.YthlhbjnkohinmaaPart15
import Derived.Test.YthlhbjnkohinmaaPart01
/- The statements without the document's answer: an engine that works, and one of given rules. -/
namespace Go.Proofs.Ythlhbjnkohinmaa
open Go.RowKit

/-- The engine's blocks are all new. -/
def NewTo (x : Nat) (X : PEng) (w w' : World) : Prop := ∃ f, PEngA x X w' f ∧ f.Nodup ∧ (∀ y ∈ f, w.heap.size ≤ y) ∧ Fr [] w w'
theorem NewTo.step {x : Nat} {X X' : PEng} {w w1 w2 : World} (h : NewTo x X w w1) (k : ∀ f, PEngA x X w1 f → f.Nodup → ATo (PEngA x X') f w1 w2) : NewTo x X' w w2 := by
  obtain ⟨f, a, n, s, r⟩ := h
  obtain ⟨f2, a2, n2, s2, r2⟩ := k f a n
  refine ⟨f2, a2, n2, fun y hy => ?_, fr_new r r2 s⟩
  rcases s2 y hy with h | h
  · exact s y h
  · exact Nat.le_trans r.size h
theorem NewTo.quiet {x : Nat} {X : PEng} {w w1 w2 : World} (h : NewTo x X w w1) (k : Fr [] w1 w2) : NewTo x X w w2 := by
  obtain ⟨f, a, n, s, r⟩ := h
  exact ⟨f, PEngA.framed _ _ a k (by simp), n, s, r.trans k⟩
/-- A call on such an engine. -/
theorem NewTo.call {x : Nat} {X X' : PEng} {w w1 : World} {F : Nat} {args : Array Value} {v : Value} (h : NewTo x X w w1) (k : ∀ f, PEngA x X w1 f → f.Nodup → Calls Try.prog F args w1 fun e w' => e = .returned v ∧ ATo (PEngA x X') f w1 w') :
    Calls Try.prog F args w1 fun e w' => e = .returned v ∧ NewTo x X' w w' := by
  obtain ⟨f, a, n, s, r⟩ := h
  refine (k f a n).mono ?_
  rintro e w' ⟨rfl, f2, a2, n2, s2, r2⟩
  refine ⟨rfl, f2, a2, n2, fun y hy => ?_, fr_new r r2 s⟩
  rcases s2 y hy with h | h
  · exact s y h
  · exact Nat.le_trans r.size h
theorem NewTo.see {x : Nat} {X : PEng} {w w1 : World} {F : Nat} {args : Array Value} {v : Value} (h : NewTo x X w w1) (k : ∀ f, PEngA x X w1 f → Calls Try.prog F args w1 fun e w' => e = .returned v ∧ Fr [] w1 w') :
    Calls Try.prog F args w1 fun e w' => e = .returned v ∧ NewTo x X w w' := by
  obtain ⟨f, a, n, s, r⟩ := h
  refine (k f a).mono ?_
  rintro e w' ⟨rfl, r2⟩
  exact ⟨rfl, f, PEngA.framed _ _ a r2 (by simp), n, s, r.trans r2⟩

set_option maxRecDepth 20000 in
set_option maxHeartbeats 2000000 in
theorem works_any (w : World) : Calls Try.prog 26 #[] w fun e w' => e = .returned (.bool true) ∧ Fr [] w w' := by
  have HN := hid (pnew_to s0 9 w (by decide) (fun x p o h => read0 h) (by decide) (by decide))
  have HO : Hid (∀ r x W, NewTo x (X0 r) w W → Calls Try.prog 13 #[.pointer (some ⟨x, 0, none⟩)] W fun e w' => e = .returned (.tuple #[.int .i64 1, .int .i64 0]) ∧ NewTo x (W1 r) w w') := hid (fun r x W h => h.call (fun f a n => by
    have := popen_to x (X0 r) f W a n (by show (0 : Int) ≤ 0 ∧ (0 : Int) < 9223372036854775807; omega)
    rw [w_open r] at this
    exact this))
  have HP : Hid (∀ r x W, NewTo x (W1 r) w W → Calls Try.prog 34 #[.pointer (some ⟨x, 0, none⟩), .int .i64 1, .string a37] W fun e w' => e = .returned (.int .i64 0) ∧ NewTo x (W2 r) w w') := hid (fun r x W h => h.call (fun f a n => by
    have := pput_to x (W1 r) f 1 a37 W a n (by decide +kernel) (fun k hf => (w_few r).more (by omega) hf)
    rw [w_put r] at this
    exact this))
  have HV : Hid (∀ r x W, NewTo x (W2 r) w W → Calls Try.prog 14 #[.pointer (some ⟨x, 0, none⟩), .int .i64 1] W fun e w' => e = .returned (.tuple #[.string a37, .int .i64 0]) ∧ NewTo x (W2 r) w w') := hid (fun r x W h => h.see (fun f a => by
    have := pview_to x (W2 r) f 1 W a (fun c hc => by have := w_hist r c hc; omega) (w_digs r)
    rw [w_view r] at this
    exact this))
  have HC : Hid (∀ r x W, r.1.2 = 9 → NewTo x (W2 r) w W → Calls Try.prog 36 #[.pointer (some ⟨x, 0, none⟩), .int .i64 1] W fun e w' => e = .returned (.tuple #[.int .i64 1, .int .i64 0]) ∧ NewTo x (W3 r) w w') := hid (fun r x W h9 h => h.call (fun f a n => by
    have := pcommit_any x (W2 r) f 1 W a n (by show (0 : Int) ≤ 0 ∧ (0 : Int) < 9223372036854775807; omega) (fun c hc => by have := w_hist r c hc; omega) (w_room r h9).1 (w_room r h9).2
    rw [w_commit r] at this
    exact this))
  have HO2 : Hid (∀ r x W, NewTo x (W3 r) w W → Calls Try.prog 13 #[.pointer (some ⟨x, 0, none⟩)] W fun e w' => e = .returned (.tuple #[.int .i64 2, .int .i64 0]) ∧ NewTo x (W4 r) w w') := hid (fun r x W h => h.call (fun f a n => by
    have := popen_to x (W3 r) f W a n (by rw [w_three r]; omega)
    rw [w_open2 r] at this
    exact this))
  have HV2 : Hid (∀ r x W, NewTo x (W4 r) w W → Calls Try.prog 14 #[.pointer (some ⟨x, 0, none⟩), .int .i64 2] W fun e w' => e = .returned (.tuple #[.string a37, .int .i64 0]) ∧ NewTo x (W4 r) w w') := hid (fun r x W h => h.see (fun f a => by
    have := pview_to x (W4 r) f 2 W a (fun c hc => by have := w_hist4 r c hc; omega) (w_digs2 r)
    rw [w_view2 r] at this
    exact this))
  unfold s0 at HN
  unfold a37 at HP HV HV2
  go_enter Try.func26, Try.ntmps26
  go_wp2_with fail
  go_at_call 27
  refine HN.out.mono ?_
  rintro e w1 ⟨x, rfl, hxw, ⟨r, hpe, h9⟩, hfr⟩
  have H9 := hid h9
  have H1 : Hid (NewTo x (X0 r) w w1) := hid ⟨[x], hpe, by simp, fun y hy => by simp at hy; omega, hfr⟩
  clear hpe hfr hxw h9
  go_wp2_with fail
  go_at_call 13
  refine (HO.out _ _ _ H1.out).mono ?_
  rintro e w2 ⟨rfl, h2⟩
  have H2 := hid h2
  clear h2
  go_wp2_with fail
  go_at_call 34
  refine (HP.out _ _ _ H2.out).mono ?_
  rintro e w3 ⟨rfl, h3⟩
  have H3 := hid h3
  clear h3
  go_wp2_with fail
  go_at_call 14
  refine (HV.out _ _ _ H3.out).mono ?_
  rintro e w4 ⟨rfl, h4⟩
  have H4 := hid h4
  clear h4
  go_wp2_with fail
  go_at_call 36
  refine (HC.out _ _ _ H9.out H4.out).mono ?_
  rintro e w5 ⟨rfl, h5⟩
  have H5 := hid h5
  clear h5
  go_wp2_with fail
  go_at_call 13
  refine (HO2.out _ _ _ H5.out).mono ?_
  rintro e w6 ⟨rfl, h6⟩
  have H6 := hid h6
  clear h6
  go_wp2_with fail
  go_at_call 14
  refine (HV2.out _ _ _ H6.out).mono ?_
  rintro e w7 ⟨rfl, h7⟩
  have H7 := hid h7
  clear h7
  go_wp2_with fail
  go_ret
  obtain ⟨_, _, _, _, r⟩ := H7.out
  exact ⟨rfl, r⟩

set_option maxRecDepth 20000 in
set_option maxHeartbeats 1000000 in
/-- engine of a text that is read. -/
theorem engine_ok (s : ByteArray) (room : Int) (w : World) (hs : s.size ≤ maxLen) (hr : ∀ x p o, ReadAns s x p o → x = 0) (h1 : 1 ≤ room) (h2 : room ≤ 999) :
    Calls Try.prog 9 #[.string s, .int .i64 room] w fun e w' => ∃ x, e = .returned (.tuple #[.pointer (some ⟨x, 0, none⟩), .bool true]) ∧ ∃ r, NewTo x (X0 r) w w' ∧ r.1.2 = room := by
  have HW := hid (works_any w)
  have HN := hid (fun W => pnew_to s room W hs hr h1 h2)
  clear hr
  go_enter Try.func9, Try.ntmps9
  go_wp2_with fail
  go_at_call 26
  refine HW.out.mono ?_
  rintro e w1 ⟨rfl, hf1⟩
  have HF1 := hid hf1
  clear hf1
  go_wp2_with fail
  go_at_call 27
  refine (HN.out _).mono ?_
  rintro e w2 ⟨x, rfl, hxw, ⟨r, hpe, hrm⟩, hfr⟩
  have HRM := hid hrm
  have H1 : Hid (NewTo x (X0 r) w w2) := hid ⟨[x], hpe, by simp, fun y hy => by have := HF1.out.size; simp at hy; omega, HF1.out.trans hfr⟩
  clear hpe hfr hxw hrm
  go_wp2_with fail
  go_ret2
  exact ⟨x, rfl, r, H1.out, HRM.out⟩

end Go.Proofs.Ythlhbjnkohinmaa

/- The book that Serial keeps, as plain data, and that the program's engine stands for it. -/
namespace Go.Proofs.Ythlhbjnkohinmaa
open Go.RowKit

/-- A client: its number (0: none), how many commits there were when it was opened, the cells that it wrote and what (0: empty). -/
structure Cli where
  num : Int
  begun : Int
  wrote : Nat → Bool
  vals : Nat → Int
structure Bk where
  cls : List Cli
  commits : Int
  latest : Nat → Int
  vals : Nat → Int

def toV (b : Int) : Option Int := if b = 0 then none else some (b - 48)
def cliW (C : Cli) (c : Nat) : PW := if C.wrote c then some (toV (C.vals c)) else none
/-- A byte of a value, or none. -/
def ByteOk (b : Int) : Prop := b = 0 ∨ (48 ≤ b ∧ b ≤ 57)

structure CliSim (P : PSes) (C : Cli) : Prop where
  num : P.num = C.num
  snap : P.snap = C.begun
  wr : ∀ c, c < 60 → P.wr c = cliW C c

/-- Which place has which client. -/
structure BSim (X : PEng) (B : Bk) (L : List (Nat × Nat)) : Prop where
  places : (L.map (·.1)).Nodup
  lt : ∀ q ∈ L, q.1 < 8
  idx : (L.map (·.2)).Nodup
  cli : ∀ q ∈ L, ∃ h : q.2 < B.cls.length, B.cls[q.2].num = (q.2 : Int) + 1 ∧ CliSim (X.ses q.1) B.cls[q.2]
  free : ∀ k, k < 8 → (∀ q ∈ L, q.1 ≠ k) → (X.ses k).num = 0
  dead : ∀ i (h : i < B.cls.length), (∀ q ∈ L, q.2 ≠ i) → B.cls[i].num = 0
  opened : X.opened = B.cls.length
  latest : X.latest = B.commits
  pos : 0 ≤ B.commits
  last : ∀ c, c < 60 → X.last c = B.latest c
  hist : ∀ c, c < 60 → histAt (X.hist c) B.commits = toV (B.vals c)
  histLe : ∀ c, c < 60 → ∀ p ∈ X.hist c, p.1 ≤ B.commits
  histN : ∀ c, c < 60 → ((X.hist c).length : Int) ≤ B.commits
  room : X.room = 999
  byte : ∀ c, c < 60 → ByteOk (B.vals c)
  cbyte : ∀ C ∈ B.cls, ∀ c, c < 60 → ByteOk (C.vals c)

/-- The client of an open session. -/
def bfind (B : Bk) (n : Int) : Option Nat := if n > 0 then B.cls.findIdx? (fun C => C.num == n) else none

theorem BSim.numOf {X : PEng} {B : Bk} {L : List (Nat × Nat)} (h : BSim X B L) {i : Nat} (hi : i < B.cls.length) : B.cls[i].num = 0 ∨ (B.cls[i].num = (i : Int) + 1 ∧ ∃ k, (k, i) ∈ L) := by
  by_cases hd : ∀ q ∈ L, q.2 ≠ i
  · exact .inl (h.dead i hi hd)
  · have hex : ∃ q ∈ L, q.2 = i := by
      apply Classical.byContradiction
      intro hc
      exact hd (fun q hq e => hc ⟨q, hq, e⟩)
    obtain ⟨q, hq, rfl⟩ := hex
    obtain ⟨_, h1, _⟩ := h.cli q hq
    exact .inr ⟨h1, q.1, hq⟩

theorem BSim.place {X : PEng} {B : Bk} {L : List (Nat × Nat)} (h : BSim X B L) {q : Nat × Nat} (hq : q ∈ L) : findP X ((q.2 : Int) + 1) = some q.1 := by
  obtain ⟨hi, hn, hs⟩ := h.cli q hq
  unfold findP
  rw [if_neg (by omega)]
  cases hf : numberedP X ((q.2 : Int) + 1) with
  | none => exact absurd (hs.num.trans hn) (numberedP_none hf q.1 (h.lt q hq))
  | some j =>
    obtain ⟨h1, h2⟩ := numberedP_some hf
    by_cases hj : ∀ q' ∈ L, q'.1 ≠ j
    · have := h.free j h1 hj
      omega
    · have hex : ∃ q' ∈ L, q'.1 = j := by
        apply Classical.byContradiction
        intro hc
        exact hj (fun q' hq' e => hc ⟨q', hq', e⟩)
      obtain ⟨q', hq', rfl⟩ := hex
      obtain ⟨hi', hn', hs'⟩ := h.cli q' hq'
      have h3 := hs'.num
      have : q'.2 = q.2 := by omega
      have := inj_of_nodup h.idx hq' hq this
      rw [this]

theorem BSim.noPlace {X : PEng} {B : Bk} {L : List (Nat × Nat)} (h : BSim X B L) {n : Int} (hn : ∀ q ∈ L, (q.2 : Int) + 1 ≠ n) : findP X n = none := by
  unfold findP
  split
  · rfl
  · cases hf : numberedP X n with
    | none => rfl
    | some j =>
      obtain ⟨h1, h2⟩ := numberedP_some hf
      by_cases hj : ∀ q' ∈ L, q'.1 ≠ j
      · have := h.free j h1 hj
        omega
      · have hex : ∃ q' ∈ L, q'.1 = j := by
          apply Classical.byContradiction
          intro hc
          exact hj (fun q' hq' e => hc ⟨q', hq', e⟩)
        obtain ⟨q', hq', rfl⟩ := hex
        obtain ⟨hi', hn', hs'⟩ := h.cli q' hq'
        exact absurd (by rw [← hn', ← hs'.num, h2]) (hn q' hq')

/-- Found by both, or by none. -/
theorem BSim.find {X : PEng} {B : Bk} {L : List (Nat × Nat)} (h : BSim X B L) (n : Int) :
    (findP X n = none ∧ bfind B n = none) ∨ ∃ k i, (k, i) ∈ L ∧ i < B.cls.length ∧ n = (i : Int) + 1 ∧ findP X n = some k ∧ bfind B n = some i := by
  by_cases hex : ∃ q ∈ L, (q.2 : Int) + 1 = n
  · obtain ⟨q, hq, rfl⟩ := hex
    obtain ⟨hi, hn, hs⟩ := h.cli q hq
    right
    refine ⟨q.1, q.2, hq, hi, rfl, h.place hq, ?_⟩
    unfold bfind
    rw [if_pos (by omega), List.findIdx?_eq_some_iff_getElem]
    refine ⟨hi, by simpa using hn, fun j hj => ?_⟩
    have hjl : j < B.cls.length := by omega
    have hne : ¬ B.cls[j].num = (q.2 : Int) + 1 := by
      rcases h.numOf hjl with h0 | ⟨h0, _⟩
      · omega
      · omega
    simpa using hne
  · left
    refine ⟨h.noPlace (fun q hq e => hex ⟨q, hq, e⟩), ?_⟩
    unfold bfind
    split
    · rw [List.findIdx?_eq_none_iff]
      intro C hC
      obtain ⟨j, hj, rfl⟩ := List.mem_iff_getElem.mp hC
      rcases h.numOf hj with h0 | ⟨h0, k, hk⟩
      · simp only [h0, beq_eq_false_iff_ne]; omega
      · simp only [h0, beq_eq_false_iff_ne]
        exact fun e => hex ⟨(k, j), hk, e⟩
    · rfl

/-- How many clients are live. -/
def liveN (l : List Cli) : Nat := (l.filter fun C => decide (C.num > 0)).length
theorem live_bound {X : PEng} {B : Bk} {L : List (Nat × Nat)} (h : BSim X B L) : liveN B.cls = L.length := by
  have h1 : (B.cls.filter fun C => decide (C.num > 0)).length = ((List.range B.cls.length).filter fun i => decide (i ∈ L.map (·.2))).length := by
    have e : B.cls = (List.range B.cls.length).map (fun i => B.cls.getD i ⟨0, 0, fun _ => false, fun _ => 0⟩) := by
      apply List.ext_getElem
      · simp
      intro i h1 h2
      simp [List.getD, h1]
    conv => lhs; rw [e]
    rw [List.filter_map, List.length_map]
    congr 1
    apply List.filter_congr
    intro i hi
    have hil : i < B.cls.length := by simpa using hi
    simp only [Function.comp, List.getD, List.getElem?_eq_getElem hil, Option.getD_some]
    rw [decide_eq_decide]
    rcases h.numOf hil with h0 | ⟨h0, k, hk⟩
    · constructor
      · intro hp; omega
      · intro hm
        obtain ⟨q, hq, e⟩ := List.mem_map.mp hm
        obtain ⟨_, hn, _⟩ := h.cli q hq
        subst e
        omega
    · constructor
      · intro _; exact List.mem_map.mpr ⟨(k, i), hk, rfl⟩
      · intro _; omega
  unfold liveN
  rw [h1]
  apply Nat.le_antisymm
  · have := length_le_of_nodup (l := (List.range B.cls.length).filter fun i => decide (i ∈ L.map (·.2))) (m := L.map (·.2)) (List.nodup_range.sublist List.filter_sublist) (fun x hx => by simpa using (List.mem_filter.mp hx).2)
    simpa using this
  · have := length_le_of_nodup (l := L.map (·.2)) (m := (List.range B.cls.length).filter fun i => decide (i ∈ L.map (·.2))) h.idx (fun x hx => by
      obtain ⟨q, hq, rfl⟩ := List.mem_map.mp hx
      obtain ⟨hi, _⟩ := h.cli q hq
      rw [List.mem_filter]
      exact ⟨by simpa using hi, by simpa using ⟨q.1, hq⟩⟩)
    simpa using this


/-! Open. -/
def Bk.open (B : Bk) (n : Int) : Bk := { B with cls := B.cls ++ [⟨n, B.commits, fun _ => false, fun _ => 0⟩] }
theorem BSim.full {X : PEng} {B : Bk} {L : List (Nat × Nat)} (h : BSim X B L) : 8 ≤ liveN B.cls ↔ numberedP X 0 = none := by
  rw [live_bound h]
  constructor
  · intro h8
    cases hf : numberedP X 0 with
    | none => rfl
    | some k =>
      obtain ⟨hk, h0⟩ := numberedP_some hf
      have hkL : ∀ q ∈ L, q.1 ≠ k := by
        rintro q hq rfl
        obtain ⟨_, hn, hs⟩ := h.cli q hq
        have := hs.num
        omega
      have h1 := length_le_of_nodup (l := k :: L.map (·.1)) (m := List.range 8) (by
        rw [List.nodup_cons]
        refine ⟨?_, h.places⟩
        intro hm
        obtain ⟨q, hq, e⟩ := List.mem_map.mp hm
        exact hkL q hq e) (fun x hx => by
        rcases List.mem_cons.mp hx with rfl | hx
        · simpa using hk
        · obtain ⟨q, hq, rfl⟩ := List.mem_map.mp hx
          simpa using h.lt q hq)
      simp at h1
      omega
  · intro hf
    have h1 := length_le_of_nodup (l := List.range 8) (m := L.map (·.1)) List.nodup_range (fun k hk => by
      apply Classical.byContradiction
      intro hc
      have hk8 : k < 8 := by simpa using hk
      exact numberedP_none hf k hk8 (h.free k hk8 (fun q hq e => hc (List.mem_map.mpr ⟨q, hq, e⟩))))
    simpa using h1
theorem BSim.open {X : PEng} {B : Bk} {L : List (Nat × Nat)} (h : BSim X B L) {k : Nat} (hf : numberedP X 0 = some k) : ∃ L', BSim (popenF X).2 (B.open (X.opened + 1)) L' := by
  obtain ⟨hk, h0⟩ := numberedP_some hf
  have hkL : ∀ q ∈ L, q.1 ≠ k := by
    rintro q hq rfl
    obtain ⟨_, hn, hs⟩ := h.cli q hq
    have := hs.num
    omega
  have hX : (popenF X).2 = { X with opened := X.opened + 1, ses := upd X.ses k (.new (X.opened + 1) X.latest) } := by unfold popenF; rw [hf]
  have hlen : (B.open (X.opened + 1)).cls.length = B.cls.length + 1 := by simp [Bk.open]
  have hold : ∀ i (hi : i < B.cls.length) (hi2 : i < (B.open (X.opened + 1)).cls.length), (B.open (X.opened + 1)).cls[i] = B.cls[i] := fun i hi hi2 => by simp [Bk.open, List.getElem_append_left hi]
  have hnew : ∀ (hi2 : B.cls.length < (B.open (X.opened + 1)).cls.length), (B.open (X.opened + 1)).cls[B.cls.length] = ⟨X.opened + 1, B.commits, fun _ => false, fun _ => 0⟩ := fun hi2 => by simp [Bk.open]
  rw [hX]
  refine ⟨L ++ [(k, B.cls.length)], ?_⟩
  refine { places := ?_, lt := ?_, idx := ?_, cli := ?_, free := ?_, dead := ?_, opened := ?_, latest := h.latest, pos := h.pos, last := h.last, hist := h.hist, histLe := h.histLe, histN := h.histN, room := h.room, byte := h.byte, cbyte := ?_ }
  · rw [List.map_append, List.nodup_append]
    refine ⟨h.places, by simp, ?_⟩
    intro a ha b hb
    obtain ⟨q, hq, rfl⟩ := List.mem_map.mp ha
    simp at hb
    rw [hb]
    exact hkL q hq
  · intro q hq
    rcases List.mem_append.mp hq with hq | hq
    · exact h.lt q hq
    · simp at hq; subst hq; exact hk
  · rw [List.map_append, List.nodup_append]
    refine ⟨h.idx, by simp, ?_⟩
    intro a ha b hb
    obtain ⟨q, hq, rfl⟩ := List.mem_map.mp ha
    obtain ⟨hi, _⟩ := h.cli q hq
    simp at hb
    omega
  · intro q hq
    rcases List.mem_append.mp hq with hq | hq
    · obtain ⟨hi, hn, hs⟩ := h.cli q hq
      refine ⟨by omega, ?_, ?_⟩
      · rw [hold _ hi]; exact hn
      · rw [hold _ hi]
        show CliSim (upd X.ses k _ q.1) _
        rw [upd_ne _ _ _ (hkL q hq)]
        exact hs
    · simp at hq
      subst hq
      refine ⟨by omega, ?_, ?_⟩
      · rw [hnew, h.opened]
      · rw [hnew]
        show CliSim (upd X.ses k _ k) _
        rw [upd_same]
        exact ⟨rfl, h.latest, fun c _ => rfl⟩
  · intro j hj hjL
    show (upd X.ses k _ j).num = 0
    have h1 : j ≠ k := fun e => hjL _ (List.mem_append_right _ (List.mem_singleton.mpr rfl)) e.symm
    rw [upd_ne _ _ _ h1]
    exact h.free j hj (fun q hq => hjL q (List.mem_append_left _ hq))
  · intro i hi hiL
    have hne : i ≠ B.cls.length := fun e => hiL _ (List.mem_append_right _ (List.mem_singleton.mpr rfl)) e.symm
    rw [hold i (by omega)]
    exact h.dead i (by omega) (fun q hq => hiL q (List.mem_append_left _ hq))
  · show X.opened + 1 = _
    rw [hlen, h.opened]
    omega
  · intro C hC c hc
    simp only [Bk.open, List.mem_append, List.mem_singleton] at hC
    rcases hC with hC | rfl
    · exact h.cbyte C hC c hc
    · exact .inl rfl

end Go.Proofs.Ythlhbjnkohinmaa

/- The book that Serial keeps: writes, ends, commits. -/
namespace Go.Proofs.Ythlhbjnkohinmaa
open Go.RowKit

def Cli.put (C : Cli) (c : Nat) (b : Int) : Cli := { C with wrote := upd C.wrote c true, vals := upd C.vals c b }
def Bk.setC (B : Bk) (i : Nat) (C : Cli) : Bk := { B with cls := B.cls.set i C }

theorem BSim.setC {X : PEng} {B : Bk} {L : List (Nat × Nat)} (h : BSim X B L) {k i : Nat} (hq : (k, i) ∈ L) (P : PSes) (C : Cli) (hs : CliSim P C) (hn : C.num = (i : Int) + 1) (hb : ∀ c, c < 60 → ByteOk (C.vals c)) : BSim (X.setSes k P) (B.setC i C) L := by
  have hne : ∀ q ∈ L, q ≠ (k, i) → q.1 ≠ k ∧ q.2 ≠ i := fun q hq' hne => ⟨fun e => hne (inj_of_nodup h.places hq' hq e), fun e => hne (inj_of_nodup h.idx hq' hq e)⟩
  have hlen : (B.setC i C).cls.length = B.cls.length := by simp [Bk.setC]
  refine { places := h.places, lt := h.lt, idx := h.idx, cli := ?_, free := ?_, dead := ?_, opened := by rw [hlen]; exact h.opened, latest := h.latest, pos := h.pos, last := h.last, hist := h.hist, histLe := h.histLe, histN := h.histN, room := h.room, byte := h.byte, cbyte := ?_ }
  · intro q hq'
    obtain ⟨hi, hnn, hss⟩ := h.cli q hq'
    by_cases e : q = (k, i)
    · subst e
      refine ⟨by rw [hlen]; exact hi, ?_, ?_⟩
      · simp [Bk.setC, hn]
      · show CliSim (upd X.ses k P k) _
        rw [upd_same]
        simpa [Bk.setC] using hs
    · obtain ⟨h1, h2⟩ := hne q hq' e
      have hget : (B.setC i C).cls[q.2]'(by rw [hlen]; exact hi) = B.cls[q.2] := by simp [Bk.setC, List.getElem_set_ne (Ne.symm h2)]
      refine ⟨by rw [hlen]; exact hi, by rw [hget]; exact hnn, ?_⟩
      rw [hget]
      show CliSim (upd X.ses k P q.1) _
      rw [upd_ne _ _ _ h1]
      exact hss
  · intro j hj hjL
    show (upd X.ses k P j).num = 0
    rw [upd_ne _ _ _ (fun e => hjL _ hq e.symm)]
    exact h.free j hj hjL
  · intro j hj hjL
    have : i ≠ j := fun e => hjL _ hq e
    have hj2 : j < B.cls.length := by rw [hlen] at hj; exact hj
    have hget : (B.setC i C).cls[j] = B.cls[j] := by simp [Bk.setC, List.getElem_set_ne this]
    rw [hget]
    exact h.dead j hj2 hjL
  · intro C' hC' c hc
    rcases List.mem_or_eq_of_mem_set hC' with hC' | rfl
    · exact h.cbyte C' hC' c hc
    · exact hb c hc
theorem CliSim.put {P : PSes} {C : Cli} (h : CliSim P C) (c : Nat) (b : Int) : CliSim (P.put c (toV b)) (C.put c b) := by
  refine ⟨h.num, h.snap, fun d hd => ?_⟩
  show upd P.wr c (some (toV b)) d = cliW (C.put c b) d
  by_cases e : d = c
  · subst e
    simp [cliW, Cli.put, upd]
  · rw [upd_ne _ _ _ e, h.wr d hd]
    simp [cliW, Cli.put, upd, e]

theorem BSim.drop {X : PEng} {B : Bk} {L : List (Nat × Nat)} (h : BSim X B L) {k i : Nat} (hq : (k, i) ∈ L) (C : Cli) (hn : C.num = 0) (hb : ∀ c, c < 60 → ByteOk (C.vals c)) : BSim (X.setSes k .zero) (B.setC i C) (L.filter fun q => q.2 != i) := by
  have hin : ∀ q ∈ L.filter (fun q => q.2 != i), q ∈ L ∧ q.1 ≠ k ∧ q.2 ≠ i := by
    intro q hq'
    obtain ⟨h1, h2⟩ := List.mem_filter.mp hq'
    have h3 : q.2 ≠ i := by simpa using h2
    exact ⟨h1, fun e => h3 (congrArg (·.2) (inj_of_nodup h.places h1 hq e)), h3⟩
  have hlen : (B.setC i C).cls.length = B.cls.length := by simp [Bk.setC]
  refine { places := h.places.sublist (List.filter_sublist.map _), lt := fun q hq' => h.lt q (hin q hq').1, idx := h.idx.sublist (List.filter_sublist.map _), cli := ?_, free := ?_, dead := ?_, opened := by rw [hlen]; exact h.opened, latest := h.latest, pos := h.pos, last := h.last, hist := h.hist, histLe := h.histLe, histN := h.histN, room := h.room, byte := h.byte, cbyte := ?_ }
  · intro q hq'
    obtain ⟨h1, h2, h3⟩ := hin q hq'
    obtain ⟨hi, hnn, hss⟩ := h.cli q h1
    have hget : (B.setC i C).cls[q.2]'(by rw [hlen]; exact hi) = B.cls[q.2] := by simp [Bk.setC, List.getElem_set_ne (Ne.symm h3)]
    refine ⟨by rw [hlen]; exact hi, by rw [hget]; exact hnn, ?_⟩
    rw [hget]
    show CliSim (upd X.ses k _ q.1) _
    rw [upd_ne _ _ _ h2]
    exact hss
  · intro j hj hjL
    show (upd X.ses k _ j).num = 0
    by_cases e : j = k
    · subst e; rw [upd_same]; rfl
    · rw [upd_ne _ _ _ e]
      apply h.free j hj
      rintro q hq' rfl
      refine hjL q (List.mem_filter.mpr ⟨hq', ?_⟩) rfl
      simp only [bne_iff_ne, ne_eq]
      intro hqi
      exact e (congrArg (·.1) (inj_of_nodup h.idx hq' hq hqi))
  · intro j hj hjL
    have hj2 : j < B.cls.length := by rw [hlen] at hj; exact hj
    by_cases e : i = j
    · subst e
      have hget : (B.setC i C).cls[i] = C := by simp [Bk.setC]
      rw [hget]; exact hn
    · have hget : (B.setC i C).cls[j] = B.cls[j] := by simp [Bk.setC, List.getElem_set_ne e]
      rw [hget]
      apply h.dead j hj2
      intro q hq' hqj
      refine hjL q (List.mem_filter.mpr ⟨hq', ?_⟩) hqj
      simp only [bne_iff_ne, ne_eq]
      omega
  · intro C' hC' c hc
    rcases List.mem_or_eq_of_mem_set hC' with hC' | rfl
    · exact h.cbyte C' hC' c hc
    · exact hb c hc

def Bk.commit (B : Bk) (C : Cli) : Bk := { B with
  commits := B.commits + 1
  latest := fun c => if C.wrote c then B.commits + 1 else B.latest c
  vals := fun c => if C.wrote c then C.vals c else B.vals c }
theorem BSim.commit {X : PEng} {B : Bk} {L : List (Nat × Nat)} (h : BSim X B L) {P : PSes} {C : Cli} (hs : ∀ c, c < 60 → P.wr c = cliW C c) (hb : ∀ c, c < 60 → ByteOk (C.vals c)) : BSim (X.commit P) (B.commit C) L := by
  have hp := h.pos
  have hw : ∀ c, c < 60 → (P.wr c).isSome = C.wrote c := fun c hc => by
    rw [hs c hc]
    unfold cliW
    cases C.wrote c <;> rfl
  have hN : ∀ c, c < 60 → (((X.commit P).hist c).length : Int) ≤ (B.commit C).commits := fun c hc => by
    have := h.histN c hc
    show ((match P.wr c with | some v => X.hist c ++ [(X.latest + 1, v)] | none => X.hist c).length : Int) ≤ B.commits + 1
    cases P.wr c with
    | none => simp only; omega
    | some v => simp only [List.length_append, List.length_cons, List.length_nil]; omega
  refine { places := h.places, lt := h.lt, idx := h.idx, cli := h.cli, free := h.free, dead := h.dead, opened := h.opened, latest := ?_, pos := ?_, last := ?_, hist := ?_, histLe := ?_, histN := hN, room := h.room, byte := ?_, cbyte := h.cbyte }
  · show X.latest + 1 = B.commits + 1
    rw [h.latest]
  · show 0 ≤ B.commits + 1
    omega
  · intro c hc
    show (if (P.wr c).isSome = true then X.latest + 1 else X.last c) = if C.wrote c = true then B.commits + 1 else B.latest c
    rw [hw c hc, h.latest, h.last c hc]
  · intro c hc
    show histAt (match P.wr c with | some v => X.hist c ++ [(X.latest + 1, v)] | none => X.hist c) (B.commits + 1) = toV (if C.wrote c = true then C.vals c else B.vals c)
    rw [hs c hc]
    unfold cliW
    cases hcw : C.wrote c with
    | true =>
      simp only [if_true]
      rw [histAt_snoc, h.latest, if_pos (Int.le_refl _)]
    | false =>
      simp only [Bool.false_eq_true, if_false]
      rw [← h.hist c hc]
      unfold histAt
      have hle := h.histLe c hc
      have hfind : ∀ l : List (Int × Option Int), (∀ p ∈ l, p.1 ≤ B.commits) → l.find? (fun p => decide (p.1 ≤ B.commits + 1)) = l.find? (fun p => decide (p.1 ≤ B.commits)) := by
        intro l hl
        cases l with
        | nil => rfl
        | cons a r =>
          have := hl a (by simp)
          rw [List.find?_cons, List.find?_cons, decide_eq_true (by omega), decide_eq_true (by omega)]
      rw [hfind _ (fun p hp => hle p (by simpa using hp))]
  · intro c hc p hp
    show p.1 ≤ B.commits + 1
    have hp' : p ∈ (match P.wr c with | some v => X.hist c ++ [(X.latest + 1, v)] | none => X.hist c) := hp
    cases hw : P.wr c with
    | none =>
      rw [hw] at hp'
      have := h.histLe c hc p hp'
      omega
    | some v =>
      rw [hw] at hp'
      rcases List.mem_append.mp hp' with hp' | hp'
      · have := h.histLe c hc p hp'; omega
      · simp at hp'
        rw [hp', h.latest]
        exact Int.le_refl _
  · intro c hc
    show ByteOk (if C.wrote c = true then C.vals c else B.vals c)
    split
    · exact hb c hc
    · exact h.byte c hc

/-- In conflict: by the book. -/
def bclash (B : Bk) (C : Cli) : Bool := (List.range 60).any fun c => C.wrote c && decide (B.latest c > C.begun)
def bsome (C : Cli) : Bool := (List.range 60).any fun c => C.wrote c
theorem any_same {f g : Nat → Bool} (h : ∀ c, c < 60 → f c = g c) : (List.range 60).any f = (List.range 60).any g := by
  rw [Bool.eq_iff_iff, List.any_eq_true, List.any_eq_true]
  constructor
  · rintro ⟨c, hc, hf⟩
    exact ⟨c, hc, by rw [← h c (by simpa using hc)]; exact hf⟩
  · rintro ⟨c, hc, hf⟩
    exact ⟨c, hc, by rw [h c (by simpa using hc)]; exact hf⟩
theorem CliSim.isSome {P : PSes} {C : Cli} (h : CliSim P C) {c : Nat} (hc : c < 60) : (P.wr c).isSome = C.wrote c := by
  rw [h.wr c hc]
  unfold cliW
  cases C.wrote c <;> rfl
theorem BSim.clash {X : PEng} {B : Bk} {L : List (Nat × Nat)} (h : BSim X B L) {P : PSes} {C : Cli} (hs : CliSim P C) : Go.Proofs.Ythlhbjnkohinmaa.clash X P = bclash B C := by
  unfold Go.Proofs.Ythlhbjnkohinmaa.clash bclash
  exact any_same (fun c hc => by rw [hs.isSome hc, h.last c hc, hs.snap])
theorem CliSim.hasW {P : PSes} {C : Cli} (hs : CliSim P C) : Go.Proofs.Ythlhbjnkohinmaa.hasW P = bsome C := by
  unfold Go.Proofs.Ythlhbjnkohinmaa.hasW bsome
  exact any_same (fun c hc => hs.isSome hc)

/-- What is shown in the end. -/
def shownT (v : Nat → Int) (n : Nat) : ByteArray := joined ((List.range n).filterMap fun c => if v c = 0 then none else some (strOfNums [97 + (c : Int) / 10, 48 + (c : Int) % 10, v c]))
theorem BSim.view {X : PEng} {B : Bk} {L : List (Nat × Nat)} (h : BSim X B L) {k : Nat} (hk : (X.ses k).wr = fun _ => none) (hsn : (X.ses k).snap = B.commits) : viewP X k = shownT B.vals 60 := by
  unfold viewP shownT
  congr 1
  apply filterMap_same
  intro c hc
  have hc60 : c < 60 := by simpa using hc
  have e : seenP X k c = toV (B.vals c) := by
    unfold seenP
    rw [hk]
    show histAt (X.hist c) (X.ses k).snap = _
    rw [hsn]
    exact h.hist c hc60
  rw [e]
  unfold toV
  split
  · rfl
  · have e2 : 48 + (B.vals c - 48) = B.vals c := by omega
    simp [factP, e2]
theorem BSim.digs {X : PEng} {B : Bk} {L : List (Nat × Nat)} (h : BSim X B L) {k : Nat} (hk : (X.ses k).wr = fun _ => none) (hsn : (X.ses k).snap = B.commits) : ∀ c v, c < 60 → seenP X k c = some v → 0 ≤ v ∧ v ≤ 9 := by
  intro c v hc hv
  unfold seenP at hv
  rw [hk] at hv
  have hv' : histAt (X.hist c) (X.ses k).snap = some v := hv
  rw [hsn, h.hist c hc] at hv'
  unfold toV at hv'
  split at hv'
  · cases hv'
  · cases hv'
    rcases h.byte c hc with hb | hb
    · contradiction
    · omega

end Go.Proofs.Ythlhbjnkohinmaa
