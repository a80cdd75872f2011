/- The program's sessions in memory: what only reads them. -/
import Derived.Test.YthlhbjnkohinmaaPeng
namespace Go.Proofs.Ythlhbjnkohinmaa
open Go.RowKit

/-! How a write is laid. -/
def wMade (p : PW) : Bool := p.isSome
def wFilled (p : PW) : Bool := match p with | some (some _) => true | _ => false
def wVal (p : PW) : Int := match p with | some (some v) => v | _ => 0

/-- How a session's marks lie there. -/
def mkV : Option Nat → Value
  | none => .slice none 0 0
  | some g => .slice (some ⟨g, 0, none⟩) 9000 9000

/-- A session lies in block b from o on. -/
structure SesAt (w : World) (b o : Nat) (S : PSes) : Prop where
  num : w.cell? ⟨b, o, none⟩ = some (.int .i64 S.num)
  snap : w.cell? ⟨b, o + 1, none⟩ = some (.int .i64 S.snap)
  cnt : w.cell? ⟨b, o + 2, none⟩ = some (.int .i64 S.made)
  made : ∀ c, c < 60 → w.cell? ⟨b, o + 3 + c * 4, none⟩ = some (.bool (wMade (S.wr c)))
  filled : ∀ c, c < 60 → w.cell? ⟨b, o + 3 + c * 4 + 1, none⟩ = some (.bool (wFilled (S.wr c)))
  val : ∀ c, c < 60 → w.cell? ⟨b, o + 3 + c * 4 + 2, none⟩ = some (.int .i64 (wVal (S.wr c)))
  tm : ∀ c, c < 60 → w.cell? ⟨b, o + 3 + c * 4 + 3, none⟩ = some (.int .i64 (S.tm c))
  mks : w.cell? ⟨b, o + 243, none⟩ = some (mkV S.mks)
  ok : S.ok

set_option maxRecDepth 20000 in
set_option maxHeartbeats 1000000 in
theorem hasw_any (b o : Nat) (S : PSes) (w : World) (h : SesAt w b o S) :
    Calls Try.prog 52 #[.pointer (some ⟨b, o, none⟩)] w fun e w' => e = .returned (.bool (hasW S)) ∧ w' = w := by
  have hc := h.cnt
  have hk := h.ok.2
  clear h
  obtain ⟨r, hr⟩ : ∃ r, r = hasW S := ⟨_, rfl⟩
  obtain ⟨m, hm⟩ : ∃ m, m = S.made := ⟨_, rfl⟩
  rw [← hr, ← hm] at hk
  rw [← hm] at hc
  rw [← hr]
  have HK := hid hk
  clear hr hm hk
  go_enter Try.func52, Try.ntmps52
  go_wp2
  go_ret
  exact ⟨by rw [← HK.out]; rfl, rfl⟩

/-- The sessions of an engine, in block x. -/
def SessAt (w : World) (x : Nat) (X : PEng) : Prop := ∀ k, k < 8 → SesAt w x (3 + k * 244) (X.ses k)

/-- The address of a place that was found. -/
def placeV (x : Nat) : Option Nat → Value
  | some k => .pointer (some ⟨x, 3 + k * 244, none⟩)
  | none => .pointer none

theorem numberedP_first {X : PEng} {n : Int} {k : Nat} (hk : k < 8) (h : (X.ses k).num = n) (hno : ∀ j, j < k → (X.ses j).num ≠ n) : numberedP X n = some k := by
  unfold numberedP
  rw [List.find?_eq_some_iff_getElem]
  refine ⟨by simpa using h, k, by simpa using hk, by simp, ?_⟩
  intro j hj
  simpa using hno j hj
theorem numberedP_no {X : PEng} {n : Int} (hno : ∀ j, j < 8 → (X.ses j).num ≠ n) : numberedP X n = none := by
  unfold numberedP
  rw [List.find?_eq_none]
  intro j hj
  simpa using hno j (by simpa using hj)

set_option maxRecDepth 20000 in
set_option maxHeartbeats 1000000 in
theorem numbered_any (x : Nat) (X : PEng) (n : Int) (w : World) (h : SessAt w x X) :
    Calls Try.prog 30 #[.pointer (some ⟨x, 0, none⟩), .int .i64 n] w fun e w' => e = .returned (placeV x (numberedP X n)) ∧ w' = w := by
  have HM : Hid (∀ k, k < 8 → w.cell? ⟨x, 3 + k * 244, none⟩ = some (.int .i64 (X.ses k).num)) := hid (fun k hk => (h k hk).num)
  clear h
  obtain ⟨r, hr⟩ : ∃ r, r = placeV x (numberedP X n) := ⟨_, rfl⟩
  rw [← hr]
  have HR := hid hr
  clear hr
  go_enter Try.func30, Try.ntmps30
  go_wp2_with fail
  go_loop [5] (fun t => ∃ k : Nat, k ≤ 8 ∧ t = .int .i64 k ∧ ∀ j, j < k → (X.ses j).num ≠ n) (fun t => 8 - (intOf t).toNat)
  case atStart => exact ⟨0, by omega, rfl, fun j h => by omega⟩
  case round =>
    obtain ⟨k, hk, rfl, hno⟩ := hrel
    have HN := hid hno
    clear hno
    by_cases hlt : k < 8
    · have d0 := HM.out k hlt
      obtain ⟨nn, hnn⟩ : ∃ nn, nn = (X.ses k).num := ⟨_, rfl⟩
      rw [← hnn] at d0
      have HNN := hid hnn
      clear hnn
      by_cases he : nn = n
      · have q : (nn == n) = true := by simpa using he
        have HU : Hid (r = .pointer (some ⟨x, 3 + k * 244, none⟩)) := hid (by rw [HR.out, numberedP_first hlt (by rw [← HNN.out]; exact he) HN.out]; rfl)
        clear he
        go_wp2
        go_ret
        exact ⟨by rw [HU.out]; rfl, rfl⟩
      · have q : (nn == n) = false := by simpa using he
        have HN' : Hid (∀ j, j < k + 1 → (X.ses j).num ≠ n) := hid (by
          intro j hj
          by_cases e : j = k
          · subst e; rw [← HNN.out]; exact he
          · exact HN.out j (by omega))
        clear he
        go_wp2
        go_round
        case rel => exact ⟨k + 1, by omega, by go_num, HN'.out⟩
        case measure => simp [intOf]; omega
    · have HU : Hid (r = .pointer none) := hid (by rw [HR.out, numberedP_no (fun j hj => HN.out j (by omega))]; rfl)
      go_wp2
      go_ret
      exact ⟨by rw [HU.out]; rfl, rfl⟩

theorem findp_any (x : Nat) (X : PEng) (n : Int) (w : World) (h : SessAt w x X) :
    Calls Try.prog 31 #[.pointer (some ⟨x, 0, none⟩), .int .i64 n] w fun e w' => e = .returned (placeV x (findP X n)) ∧ w' = w := by
  have HN := hid (numbered_any x X n w h)
  clear h
  obtain ⟨r, hr⟩ : ∃ r, r = placeV x (findP X n) := ⟨_, rfl⟩
  rw [← hr]
  by_cases hn : n < 1
  · have HU : Hid (r = .pointer none) := hid (by rw [hr]; unfold findP; rw [if_pos hn]; rfl)
    clear hr HN
    go_enter Try.func31, Try.ntmps31
    go_wp2
    go_ret
    exact ⟨by rw [HU.out]; rfl, rfl⟩
  · have hr2 : placeV x (numberedP X n) = r := by rw [hr]; unfold findP; rw [if_neg hn]
    rw [hr2] at HN
    clear hr hr2
    go_enter Try.func31, Try.ntmps31
    go_wp2_with fail
    go_at_call 30
    refine HN.out.mono ?_
    rintro e w' ⟨rfl, rfl⟩
    go_wp2
    go_ret
    exact ⟨rfl, rfl⟩

/-! Cells and facts, as the program reads and writes them. -/
def rdCell (s : ByteArray) : Value := if cellB s then .tuple #[.int .i64 (cellN s), .bool true] else .tuple #[.int .i64 0, .bool false]
def rdFact (s : ByteArray) : Value := if factB s then .tuple #[.int .i64 (cellN s), .int .i64 (bt s 2 - 48), .bool true] else .tuple #[.int .i64 0, .int .i64 0, .bool false]

set_option maxRecDepth 20000 in
set_option maxHeartbeats 1000000 in
theorem rdcell_any (s : ByteArray) (w : World) (_hs63 : s.size < 9223372036854775808) :
    Calls Try.prog 50 #[.string s] w fun e w' => e = .returned (rdCell s) ∧ w' = w := by
  obtain ⟨r, hr⟩ : ∃ r, r = rdCell s := ⟨_, rfl⟩
  rw [← hr]
  by_cases hs2 : s.size = 2
  · have s0 : 0 < s.size := by omega
    have s1 : 1 < s.size := by omega
    have bb0 := bt_bd s 0
    have bb1 := bt_bd s 1
    have hb : cellB s = (clsB (bt s 0) && digB (bt s 1)) := by simp [cellB, hs2]
    cases h0 : clsB (bt s 0) with
    | false =>
      have HC0 := hid (fun W => cclass_no (bt s 0) W bb0.1 bb0.2 h0)
      have HU : Hid (r = .tuple #[.int .i64 0, .bool false]) := hid (by rw [hr]; unfold rdCell; rw [hb, h0]; rfl)
      rw [bt_in s0] at HC0
      cases h1 : digB (bt s 1) with
      | false =>
        have HC1 := hid (fun W => cdigit_no (bt s 1) W bb1.1 bb1.2 h1)
        rw [bt_in s1] at HC1
        clear hb h0 h1 bb0 bb1 hr
        go_enter Try.func50, Try.ntmps50
        go_wp2_with fail
        go_at_call 71
        refine (HC0.out _).mono ?_
        rintro e w' ⟨rfl, rfl⟩
        go_wp2_with fail
        go_at_call 69
        refine (HC1.out _).mono ?_
        rintro e w' ⟨rfl, rfl⟩
        go_wp2
        go_ret2
        exact ⟨by rw [HU.out]; rfl, rfl⟩
      | true =>
        have HC1 := hid (fun W => cdigit_yes (bt s 1) W bb1.1 bb1.2 h1)
        rw [bt_in s1] at HC1
        clear hb h0 h1 bb0 bb1 hr
        go_enter Try.func50, Try.ntmps50
        go_wp2_with fail
        go_at_call 71
        refine (HC0.out _).mono ?_
        rintro e w' ⟨rfl, rfl⟩
        go_wp2_with fail
        go_at_call 69
        refine (HC1.out _).mono ?_
        rintro e w' ⟨rfl, rfl⟩
        go_wp2
        go_ret2
        exact ⟨by rw [HU.out]; rfl, rfl⟩
    | true =>
      have HC0 := hid (fun W => cclass_yes (bt s 0) W bb0.1 bb0.2 h0)
      cases h1 : digB (bt s 1) with
      | false =>
        have HU : Hid (r = .tuple #[.int .i64 0, .bool false]) := hid (by rw [hr]; unfold rdCell; rw [hb, h0, h1]; rfl)
        have HC1 := hid (fun W => cdigit_no (bt s 1) W bb1.1 bb1.2 h1)
        rw [bt_in s0] at HC0
        rw [bt_in s1] at HC1
        clear hb h0 h1 bb0 bb1 hr
        go_enter Try.func50, Try.ntmps50
        go_wp2_with fail
        go_at_call 71
        refine (HC0.out _).mono ?_
        rintro e w' ⟨rfl, rfl⟩
        go_wp2_with fail
        go_at_call 69
        refine (HC1.out _).mono ?_
        rintro e w' ⟨rfl, rfl⟩
        go_wp2
        go_ret2
        exact ⟨by rw [HU.out]; rfl, rfl⟩
      | true =>
        have HC1 := hid (fun W => cdigit_yes (bt s 1) W bb1.1 bb1.2 h1)
        have hcb : 97 ≤ bt s 0 ∧ bt s 0 ≤ 102 := by simpa [clsB] using h0
        have hdb : 48 ≤ bt s 1 ∧ bt s 1 ≤ 57 := by simpa [digB] using h1
        have HU : Hid (r = .tuple #[.int .i64 ((bt s 0 - 97) * 10 + (bt s 1 - 48)), .bool true]) := hid (by
          rw [hr]; unfold rdCell; rw [hb, h0, h1]
          have : ((cellN s : Nat) : Int) = (bt s 0 - 97) * 10 + (bt s 1 - 48) := by unfold cellN; omega
          rw [← this]; rfl)
        obtain ⟨c0, hc0⟩ : ∃ c0, c0 = bt s 0 := ⟨_, rfl⟩
        obtain ⟨c1, hc1⟩ : ∃ c1, c1 = bt s 1 := ⟨_, rfl⟩
        have e0 : ((s[0]'s0).toNat : Int) = c0 := by rw [hc0, bt_in s0]
        have e1 : ((s[1]'s1).toNat : Int) = c1 := by rw [hc1, bt_in s1]
        rw [← hc0, ← hc1] at HU
        rw [← hc0] at HC0 hcb
        rw [← hc1] at HC1 hdb
        clear hb h0 h1 bb0 bb1 hr hc0 hc1
        go_enter Try.func50, Try.ntmps50
        go_wp2_with fail
        go_at_call 71
        refine (HC0.out _).mono ?_
        rintro e w' ⟨rfl, rfl⟩
        go_wp2_with fail
        go_at_call 69
        refine (HC1.out _).mono ?_
        rintro e w' ⟨rfl, rfl⟩
        go_wp2
        go_ret2
        exact ⟨by rw [HU.out]; rfl, rfl⟩
  · have HU : Hid (r = .tuple #[.int .i64 0, .bool false]) := hid (by rw [hr]; simp [rdCell, cellB, hs2])
    clear hr
    go_enter Try.func50, Try.ntmps50
    go_wp2
    go_ret2
    exact ⟨by rw [HU.out]; rfl, rfl⟩

end Go.Proofs.Ythlhbjnkohinmaa
