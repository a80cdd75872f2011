import Derived.Test.YthlhbjnkohinmaaGreatPeng
import Derived.Test.YthlhbjnkohinmaaGreatMem
import Derived.Deep.RegionLaw
import Derived.Deep.MidRow
import Derived.Handy
/- The program's sessions in memory: what only reads them. -/
namespace Go.Proofs.YthlhbjnkohinmaaGreat
open Go.RowKit

/-! How a write is laid. -/
def wMade (p : PW) : Bool := p.isSome
def wFilled (p : PW) : Bool := match p with | some (some _) => true | _ => false
def wVal (p : PW) : Int := match p with | some (some v) => v | _ => 0

/-- How a session's marks lie there. -/
def mkV : Option Nat → Value
  | none => .slice none 0 0
  | some g => .slice (some ⟨g, 0, none⟩) 9000 9000

/-- A session lies in block b from o on. -/
structure SesAt (w : World) (b o : Nat) (S : PSes) : Prop where
  num : w.cell? ⟨b, o, none⟩ = some (.int .i64 S.num)
  snap : w.cell? ⟨b, o + 1, none⟩ = some (.int .i64 S.snap)
  cnt : w.cell? ⟨b, o + 2, none⟩ = some (.int .i64 S.made)
  made : ∀ c, c < 60 → w.cell? ⟨b, o + 3 + c * 4, none⟩ = some (.bool (wMade (S.wr c)))
  filled : ∀ c, c < 60 → w.cell? ⟨b, o + 3 + c * 4 + 1, none⟩ = some (.bool (wFilled (S.wr c)))
  val : ∀ c, c < 60 → w.cell? ⟨b, o + 3 + c * 4 + 2, none⟩ = some (.int .i64 (wVal (S.wr c)))
  tm : ∀ c, c < 60 → w.cell? ⟨b, o + 3 + c * 4 + 3, none⟩ = some (.int .i64 (S.tm c))
  mks : w.cell? ⟨b, o + 243, none⟩ = some (mkV S.mks)
  ok : S.ok

set_option maxRecDepth 20000 in
set_option maxHeartbeats 1000000 in
theorem hasw_any (b o : Nat) (S : PSes) (w : World) (h : SesAt w b o S) :
    Calls Tryz.prog 53 #[.pointer (some ⟨b, o, none⟩)] w fun e w' => e = .returned (.bool (hasW S)) ∧ w' = w := by
  have hc := h.cnt
  have hk := h.ok.2
  clear h
  obtain ⟨r, hr⟩ : ∃ r, r = hasW S := ⟨_, rfl⟩
  obtain ⟨m, hm⟩ : ∃ m, m = S.made := ⟨_, rfl⟩
  rw [← hr, ← hm] at hk
  rw [← hm] at hc
  rw [← hr]
  have HK := hid hk
  clear hr hm hk
  go_enter Tryz.func53, Tryz.ntmps53
  go_wp2
  go_ret
  exact ⟨by rw [← HK.out]; rfl, rfl⟩

/-- The sessions of an engine, in block x. -/
def SessAt (w : World) (x : Nat) (X : PEng) : Prop := ∀ k, k < 8 → SesAt w x (3 + k * 244) (X.ses k)

/-- The address of a place that was found. -/
def placeV (x : Nat) : Option Nat → Value
  | some k => .pointer (some ⟨x, 3 + k * 244, none⟩)
  | none => .pointer none

theorem numberedP_first {X : PEng} {n : Int} {k : Nat} (hk : k < 8) (h : (X.ses k).num = n) (hno : ∀ j, j < k → (X.ses j).num ≠ n) : numberedP X n = some k := by
  unfold numberedP
  rw [List.find?_eq_some_iff_getElem]
  refine ⟨by simpa using h, k, by simpa using hk, by simp, ?_⟩
  intro j hj
  simpa using hno j hj
theorem numberedP_no {X : PEng} {n : Int} (hno : ∀ j, j < 8 → (X.ses j).num ≠ n) : numberedP X n = none := by
  unfold numberedP
  rw [List.find?_eq_none]
  intro j hj
  simpa using hno j (by simpa using hj)

set_option maxRecDepth 20000 in
set_option maxHeartbeats 1000000 in
theorem numbered_any (x : Nat) (X : PEng) (n : Int) (w : World) (h : SessAt w x X) :
    Calls Tryz.prog 40 #[.pointer (some ⟨x, 0, none⟩), .int .i64 n] w fun e w' => e = .returned (placeV x (numberedP X n)) ∧ w' = w := by
  have HM : Hid (∀ k, k < 8 → w.cell? ⟨x, 3 + k * 244, none⟩ = some (.int .i64 (X.ses k).num)) := hid (fun k hk => (h k hk).num)
  clear h
  obtain ⟨r, hr⟩ : ∃ r, r = placeV x (numberedP X n) := ⟨_, rfl⟩
  rw [← hr]
  have HR := hid hr
  clear hr
  go_enter Tryz.func40, Tryz.ntmps40
  go_wp2_with fail
  go_loop [5] (fun t => ∃ k : Nat, k ≤ 8 ∧ t = .int .i64 k ∧ ∀ j, j < k → (X.ses j).num ≠ n) (fun t => 8 - (intOf t).toNat)
  case atStart => exact ⟨0, by omega, rfl, fun j h => by omega⟩
  case round =>
    obtain ⟨k, hk, rfl, hno⟩ := hrel
    have HN := hid hno
    clear hno
    by_cases hlt : k < 8
    · have d0 := HM.out k hlt
      obtain ⟨nn, hnn⟩ : ∃ nn, nn = (X.ses k).num := ⟨_, rfl⟩
      rw [← hnn] at d0
      have HNN := hid hnn
      clear hnn
      by_cases he : nn = n
      · have q : (nn == n) = true := by simpa using he
        have HU : Hid (r = .pointer (some ⟨x, 3 + k * 244, none⟩)) := hid (by rw [HR.out, numberedP_first hlt (by rw [← HNN.out]; exact he) HN.out]; rfl)
        clear he
        go_wp2
        go_ret
        exact ⟨by rw [HU.out]; rfl, rfl⟩
      · have q : (nn == n) = false := by simpa using he
        have HN' : Hid (∀ j, j < k + 1 → (X.ses j).num ≠ n) := hid (by
          intro j hj
          by_cases e : j = k
          · subst e; rw [← HNN.out]; exact he
          · exact HN.out j (by omega))
        clear he
        go_wp2
        go_round
        case rel => exact ⟨k + 1, by omega, by go_num, HN'.out⟩
        case measure => simp [intOf]; omega
    · have HU : Hid (r = .pointer none) := hid (by rw [HR.out, numberedP_no (fun j hj => HN.out j (by omega))]; rfl)
      go_wp2
      go_ret
      exact ⟨by rw [HU.out]; rfl, rfl⟩

theorem findp_any (x : Nat) (X : PEng) (n : Int) (w : World) (h : SessAt w x X) :
    Calls Tryz.prog 41 #[.pointer (some ⟨x, 0, none⟩), .int .i64 n] w fun e w' => e = .returned (placeV x (findP X n)) ∧ w' = w := by
  have HN := hid (numbered_any x X n w h)
  clear h
  obtain ⟨r, hr⟩ : ∃ r, r = placeV x (findP X n) := ⟨_, rfl⟩
  rw [← hr]
  by_cases hn : n < 1
  · have HU : Hid (r = .pointer none) := hid (by rw [hr]; unfold findP; rw [if_pos hn]; rfl)
    clear hr HN
    go_enter Tryz.func41, Tryz.ntmps41
    go_wp2
    go_ret
    exact ⟨by rw [HU.out]; rfl, rfl⟩
  · have hr2 : placeV x (numberedP X n) = r := by rw [hr]; unfold findP; rw [if_neg hn]
    rw [hr2] at HN
    clear hr hr2
    go_enter Tryz.func41, Tryz.ntmps41
    go_wp2_with fail
    go_at_call 40
    refine HN.out.mono ?_
    rintro e w' ⟨rfl, rfl⟩
    go_wp2
    go_ret
    exact ⟨rfl, rfl⟩

/-! Cells and facts, as the program reads and writes them. -/
def rdCell (s : ByteArray) : Value := if cellB s then .tuple #[.int .i64 (cellN s), .bool true] else .tuple #[.int .i64 0, .bool false]
def rdFact (s : ByteArray) : Value := if factB s then .tuple #[.int .i64 (cellN s), .int .i64 (bt s 2 - 48), .bool true] else .tuple #[.int .i64 0, .int .i64 0, .bool false]

set_option maxRecDepth 20000 in
set_option maxHeartbeats 1000000 in
theorem rdcell_any (s : ByteArray) (w : World) (_hs63 : s.size < 9223372036854775808) :
    Calls Tryz.prog 47 #[.string s] w fun e w' => e = .returned (rdCell s) ∧ w' = w := by
  obtain ⟨r, hr⟩ : ∃ r, r = rdCell s := ⟨_, rfl⟩
  rw [← hr]
  by_cases hs2 : s.size = 2
  · have s0 : 0 < s.size := by omega
    have s1 : 1 < s.size := by omega
    have bb0 := bt_bd s 0
    have bb1 := bt_bd s 1
    have hb : cellB s = (clsB (bt s 0) && digB (bt s 1)) := by simp [cellB, hs2]
    cases h0 : clsB (bt s 0) with
    | false =>
      have HC0 := hid (fun W => cclass_no (bt s 0) W bb0.1 bb0.2 h0)
      have HU : Hid (r = .tuple #[.int .i64 0, .bool false]) := hid (by rw [hr]; unfold rdCell; rw [hb, h0]; rfl)
      rw [bt_in s0] at HC0
      cases h1 : digB (bt s 1) with
      | false =>
        have HC1 := hid (fun W => cdigit_no (bt s 1) W bb1.1 bb1.2 h1)
        rw [bt_in s1] at HC1
        clear hb h0 h1 bb0 bb1 hr
        go_enter Tryz.func47, Tryz.ntmps47
        go_wp2_with fail
        go_at_call 82
        refine (HC0.out _).mono ?_
        rintro e w' ⟨rfl, rfl⟩
        go_wp2_with fail
        go_at_call 80
        refine (HC1.out _).mono ?_
        rintro e w' ⟨rfl, rfl⟩
        go_wp2
        go_ret2
        exact ⟨by rw [HU.out]; rfl, rfl⟩
      | true =>
        have HC1 := hid (fun W => cdigit_yes (bt s 1) W bb1.1 bb1.2 h1)
        rw [bt_in s1] at HC1
        clear hb h0 h1 bb0 bb1 hr
        go_enter Tryz.func47, Tryz.ntmps47
        go_wp2_with fail
        go_at_call 82
        refine (HC0.out _).mono ?_
        rintro e w' ⟨rfl, rfl⟩
        go_wp2_with fail
        go_at_call 80
        refine (HC1.out _).mono ?_
        rintro e w' ⟨rfl, rfl⟩
        go_wp2
        go_ret2
        exact ⟨by rw [HU.out]; rfl, rfl⟩
    | true =>
      have HC0 := hid (fun W => cclass_yes (bt s 0) W bb0.1 bb0.2 h0)
      cases h1 : digB (bt s 1) with
      | false =>
        have HU : Hid (r = .tuple #[.int .i64 0, .bool false]) := hid (by rw [hr]; unfold rdCell; rw [hb, h0, h1]; rfl)
        have HC1 := hid (fun W => cdigit_no (bt s 1) W bb1.1 bb1.2 h1)
        rw [bt_in s0] at HC0
        rw [bt_in s1] at HC1
        clear hb h0 h1 bb0 bb1 hr
        go_enter Tryz.func47, Tryz.ntmps47
        go_wp2_with fail
        go_at_call 82
        refine (HC0.out _).mono ?_
        rintro e w' ⟨rfl, rfl⟩
        go_wp2_with fail
        go_at_call 80
        refine (HC1.out _).mono ?_
        rintro e w' ⟨rfl, rfl⟩
        go_wp2
        go_ret2
        exact ⟨by rw [HU.out]; rfl, rfl⟩
      | true =>
        have HC1 := hid (fun W => cdigit_yes (bt s 1) W bb1.1 bb1.2 h1)
        have hcb : 97 ≤ bt s 0 ∧ bt s 0 ≤ 102 := by simpa [clsB] using h0
        have hdb : 48 ≤ bt s 1 ∧ bt s 1 ≤ 57 := by simpa [digB] using h1
        have HU : Hid (r = .tuple #[.int .i64 ((bt s 0 - 97) * 10 + (bt s 1 - 48)), .bool true]) := hid (by
          rw [hr]; unfold rdCell; rw [hb, h0, h1]
          have : ((cellN s : Nat) : Int) = (bt s 0 - 97) * 10 + (bt s 1 - 48) := by unfold cellN; omega
          rw [← this]; rfl)
        obtain ⟨c0, hc0⟩ : ∃ c0, c0 = bt s 0 := ⟨_, rfl⟩
        obtain ⟨c1, hc1⟩ : ∃ c1, c1 = bt s 1 := ⟨_, rfl⟩
        have e0 : ((s[0]'s0).toNat : Int) = c0 := by rw [hc0, bt_in s0]
        have e1 : ((s[1]'s1).toNat : Int) = c1 := by rw [hc1, bt_in s1]
        rw [← hc0, ← hc1] at HU
        rw [← hc0] at HC0 hcb
        rw [← hc1] at HC1 hdb
        clear hb h0 h1 bb0 bb1 hr hc0 hc1
        go_enter Tryz.func47, Tryz.ntmps47
        go_wp2_with fail
        go_at_call 82
        refine (HC0.out _).mono ?_
        rintro e w' ⟨rfl, rfl⟩
        go_wp2_with fail
        go_at_call 80
        refine (HC1.out _).mono ?_
        rintro e w' ⟨rfl, rfl⟩
        go_wp2
        go_ret2
        exact ⟨by rw [HU.out]; rfl, rfl⟩
  · have HU : Hid (r = .tuple #[.int .i64 0, .bool false]) := hid (by rw [hr]; simp [rdCell, cellB, hs2])
    clear hr
    go_enter Tryz.func47, Tryz.ntmps47
    go_wp2
    go_ret2
    exact ⟨by rw [HU.out]; rfl, rfl⟩

end Go.Proofs.YthlhbjnkohinmaaGreat

/- The program's sessions in memory: what writes them. -/
namespace Go.Proofs.YthlhbjnkohinmaaGreat
open Go.RowKit

/-- What a write leaves in memory. -/
def recW (w : World) (b o c : Nat) (f : Bool) (v n t : Int) : World := ((((w.setCell ⟨b, o + 2, none⟩ (.int .i64 n)).setCell ⟨b, o + 3 + c * 4, none⟩ (.bool true)).setCell ⟨b, o + 3 + c * 4 + 1, none⟩ (.bool f)).setCell ⟨b, o + 3 + c * 4 + 2, none⟩ (.int .i64 v)).setCell ⟨b, o + 3 + c * 4 + 3, none⟩ (.int .i64 t)

set_option maxRecDepth 20000 in
set_option maxHeartbeats 1000000 in
theorem record_any (b o c : Nat) (f : Bool) (v n t : Int) (w : World) (hc : c < 60) (u0 u1 u2 u3 : Value)
    (m0 : w.cell? ⟨b, o + 1, none⟩ = some (.int .i64 t)) (m1 : w.cell? ⟨b, o + 2, none⟩ = some (.int .i64 n)) (hn : 0 ≤ n) (ht : 0 ≤ t) (hnt : t + (n + 1) ≤ 9223372036854775807)
    (c0 : w.cell? ⟨b, o + 3 + c * 4, none⟩ = some u0) (c1 : w.cell? ⟨b, o + 3 + c * 4 + 1, none⟩ = some u1) (c2 : w.cell? ⟨b, o + 3 + c * 4 + 2, none⟩ = some u2) (c3 : w.cell? ⟨b, o + 3 + c * 4 + 3, none⟩ = some u3)
    (zz : ∀ i, w.frozen? ⟨b, i, none⟩ = false) (hb : b < w.heap.size) :
    Calls Tryz.prog 81 #[.pointer (some ⟨b, o, none⟩), .int .i64 c, .agg #[.bool f, .int .i64 v]] w fun e w' => e = .returned (.tuple #[]) ∧
      ∃ m, w' = ((recW w b o c f v (n + 1) (t + (n + 1))).alloc (.cells #[.bool f, .int .i64 v] 74)).drewN m := by
  have hbz : b ≠ w.heap.size := by omega
  have hi0 : (0 : Int) ≤ (c : Int) := by omega
  have hi1 : (c : Int) < 60 := by omega
  have z0 := zz (o + 2)
  have z1 := zz (o + 3 + c * 4)
  have z2 := zz (o + 3 + c * 4 + 1)
  have z3 := zz (o + 3 + c * 4 + 2)
  have z4 := zz (o + 3 + c * 4 + 3)
  unfold recW
  go_enter Tryz.func81, Tryz.ntmps81
  go_wp2_with fail
  go_region
  all_goals go_wp2_with fail
  all_goals go_returns
  all_goals exact ⟨rfl, 1, rfl⟩

/-- Block b is changed from o on, for n cells; nothing else is, but for new blocks. -/
structure Chg (w w' : World) (b o n : Nat) : Prop where
  fr : Fr [b] w w'
  cell : ∀ i, (i < o ∨ o + n ≤ i) → w'.cell? ⟨b, i, none⟩ = w.cell? ⟨b, i, none⟩
  blk : ∀ {cs : Array Value} {t : TypeId}, w.heap[b]? = some (.cells cs t (0, 0)) → ∃ cs', w'.heap[b]? = some (.cells cs' t (0, 0))
theorem Chg.refl (w : World) (b o n : Nat) : Chg w w b o n := ⟨Fr.refl _ _, fun _ _ => rfl, fun h => ⟨_, h⟩⟩
theorem Chg.trans {w w1 w2 : World} {b o n : Nat} (h : Chg w w1 b o n) (k : Chg w1 w2 b o n) : Chg w w2 b o n :=
  ⟨h.fr.trans k.fr, fun i hi => (k.cell i hi).trans (h.cell i hi), fun hb => by obtain ⟨_, h1⟩ := h.blk hb; exact k.blk h1⟩
theorem Chg.wide {w w' : World} {b o n o' n' : Nat} (h : Chg w w' b o n) (h1 : o' ≤ o) (h2 : o + n ≤ o' + n') : Chg w w' b o' n' :=
  ⟨h.fr, fun i hi => h.cell i (by omega), h.blk⟩
theorem Chg.drewN {w w' : World} {b o n : Nat} (h : Chg w w' b o n) (m : Nat) : Chg w (w'.drewN m) b o n := ⟨h.fr.drewN m, h.cell, h.blk⟩
theorem blk_setCell {w : World} {b : Nat} {cs : Array Value} {t : TypeId} (h : w.heap[b]? = some (.cells cs t (0, 0))) (i : Nat) (u : Value) : (w.setCell ⟨b, i, none⟩ u).heap[b]? = some (.cells (cs.setIfInBounds i u) t (0, 0)) := Go.heap_setCell_same w b i _ _ _ h
theorem Chg.set {w w' : World} {b o n : Nat} (h : Chg w w' b o n) {i : Nat} (h1 : o ≤ i) (h2 : i < o + n) (u : Value) : Chg w (w'.setCell ⟨b, i, none⟩ u) b o n :=
  ⟨h.fr.set (.inl (by simp)) u, fun j hj => by
    rw [World.cell?_setCell_other _ _ _ _ (by intro e; injection e with e1 e2; omega)]
    exact h.cell j hj, fun hb => by
    obtain ⟨cs', h3⟩ := h.blk hb
    exact ⟨_, blk_setCell h3 i u⟩⟩
theorem Chg.alloc {w w' : World} {b o n : Nat} (h : Chg w w' b o n) (hb : b < w.heap.size) (ob : Obj) : Chg w (w'.alloc ob) b o n := by
  have hb' : b < w'.heap.size := Nat.lt_of_lt_of_le hb h.fr.size
  refine ⟨h.fr.alloc ob, fun j hj => ?_, fun hk => ?_⟩
  · rw [World.cell?_alloc_lt _ _ _ (by simpa using hb')]
    exact h.cell j hj
  · obtain ⟨cs', h3⟩ := h.blk hk
    exact ⟨cs', (Below.heap_alloc w' ob b hb').trans h3⟩

theorem SesAt.other {w w' : World} {b o a n : Nat} {S : PSes} (h : SesAt w b o S) (hc : Chg w w' b a n) (hd : o + 244 ≤ a ∨ a + n ≤ o) : SesAt w' b o S :=
  ⟨(hc.cell _ (by omega)).trans h.num, (hc.cell _ (by omega)).trans h.snap, (hc.cell _ (by omega)).trans h.cnt, fun c hl => (hc.cell _ (by omega)).trans (h.made c hl), fun c hl => (hc.cell _ (by omega)).trans (h.filled c hl), fun c hl => (hc.cell _ (by omega)).trans (h.val c hl), fun c hl => (hc.cell _ (by omega)).trans (h.tm c hl), (hc.cell _ (by omega)).trans h.mks, h.ok⟩
theorem SesAt.fr {w w' : World} {b o : Nat} {S : PSes} {F : List Nat} (h : SesAt w b o S) (hf : Fr F w w') (hb : b < w.heap.size) (hF : b ∉ F) : SesAt w' b o S := by
  have e : ∀ i, w'.cell? ⟨b, i, none⟩ = w.cell? ⟨b, i, none⟩ := fun i => by simp only [World.cell?, hf.block b hb hF]
  exact ⟨(e _).trans h.num, (e _).trans h.snap, (e _).trans h.cnt, fun c hl => (e _).trans (h.made c hl), fun c hl => (e _).trans (h.filled c hl), fun c hl => (e _).trans (h.val c hl), fun c hl => (e _).trans (h.tm c hl), (e _).trans h.mks, h.ok⟩

/-- What a write to a cell leaves. -/
structure PutTo (b o : Nat) (S' : PSes) (w w' : World) : Prop where
  ses : SesAt w' b o S'
  chg : Chg w w' b o 244

theorem hasW_put (S : PSes) {c : Nat} (hc : c < 60) (v : Option Int) : hasW (S.put c v) = true := by
  unfold hasW
  rw [List.any_eq_true]
  exact ⟨c, by simpa using hc, by simp [PSes.put, upd]⟩
theorem PSes.ok.put {S : PSes} (h : S.ok) {c : Nat} (hc : c < 60) (v : Option Int) : (S.put c v).ok := by
  have h0 := h.1
  refine ⟨?_, ?_⟩
  · show 0 ≤ S.made + 1
    omega
  · rw [hasW_put S hc v]
    show decide (0 < S.made + 1) = true
    exact decide_eq_true (by omega)

theorem cell_set_ne {w : World} {b i j : Nat} (h : i ≠ j) (u : Value) : (w.setCell ⟨b, j, none⟩ u).cell? ⟨b, i, none⟩ = w.cell? ⟨b, i, none⟩ := World.cell?_setCell_other _ _ _ _ (by intro e; injection e with e1 e2; omega)
theorem cell_set_eq {w : World} {b i : Nat} {v : Value} (h : w.cell? ⟨b, i, none⟩ = some v) (u : Value) : (w.setCell ⟨b, i, none⟩ u).cell? ⟨b, i, none⟩ = some u := World.cell?_setCell_same _ _ _ h

set_option maxHeartbeats 1000000 in
theorem put_to {b o c : Nat} {S : PSes} {w : World} {cs : Array Value} {t : TypeId} (hb : w.heap[b]? = some (.cells cs t (0, 0))) (h : SesAt w b o S) (hc : c < 60) (v : Option Int) (ob : Obj) (m : Nat) :
    PutTo b o (S.put c v) w (((recW w b o c v.isSome (v.getD 0) (S.made + 1) (S.snap + (S.made + 1))).alloc ob).drewN m) := by
  have hbl := lt_of_block hb
  have hsz : (recW w b o c v.isSome (v.getD 0) (S.made + 1) (S.snap + (S.made + 1))).heap.size = w.heap.size := by simp [recW, World.setCell]
  have hch : Chg w (((recW w b o c v.isSome (v.getD 0) (S.made + 1) (S.snap + (S.made + 1))).alloc ob).drewN m) b o 244 := by
    unfold recW
    exact (((((((Chg.refl w b o 244).set (by omega) (by omega) _).set (by omega) (by omega) _).set (by omega) (by omega) _).set (by omega) (by omega) _).set (by omega) (by omega) _).alloc hbl ob).drewN m
  have e0 : ∀ (R : World), R.heap.size = w.heap.size → ∀ i, ((R.alloc ob).drewN m).cell? ⟨b, i, none⟩ = R.cell? ⟨b, i, none⟩ := fun R hR i => by
    show World.cell? (World.alloc _ _) _ = _
    exact World.cell?_alloc_lt _ _ _ (by rw [hR]; exact hbl)
  have e := e0 _ hsz
  have far : ∀ i, i ≠ o + 2 → i ≠ o + 3 + c * 4 → i ≠ o + 3 + c * 4 + 1 → i ≠ o + 3 + c * 4 + 2 → i ≠ o + 3 + c * 4 + 3 → (recW w b o c v.isSome (v.getD 0) (S.made + 1) (S.snap + (S.made + 1))).cell? ⟨b, i, none⟩ = w.cell? ⟨b, i, none⟩ := by
    intro i h1 h2 h3 h4 h5
    unfold recW
    rw [cell_set_ne h5, cell_set_ne h4, cell_set_ne h3, cell_set_ne h2, cell_set_ne h1]
  refine ⟨⟨?_, ?_, ?_, fun j hj => ?_, fun j hj => ?_, fun j hj => ?_, fun j hj => ?_, ?_, h.ok.put hc v⟩, hch⟩
  · rw [e, far _ (by omega) (by omega) (by omega) (by omega) (by omega)]; exact h.num
  · rw [e, far _ (by omega) (by omega) (by omega) (by omega) (by omega)]; exact h.snap
  · rw [e]
    unfold recW
    rw [cell_set_ne (by omega), cell_set_ne (by omega), cell_set_ne (by omega), cell_set_ne (by omega), cell_set_eq h.cnt]
    rfl
  · show World.cell? _ _ = some (Value.bool (wMade (upd S.wr c (some v) j)))
    rw [e]
    by_cases ej : j = c
    · subst ej
      rw [upd_same]
      unfold recW
      rw [cell_set_ne (by omega), cell_set_ne (by omega), cell_set_ne (by omega), cell_set_eq (v := .bool (wMade (S.wr j))) (by rw [cell_set_ne (by omega)]; exact h.made j hj)]
      rfl
    · rw [upd_ne _ _ _ ej, far _ (by omega) (by omega) (by omega) (by omega) (by omega)]; exact h.made j hj
  · show World.cell? _ _ = some (Value.bool (wFilled (upd S.wr c (some v) j)))
    rw [e]
    by_cases ej : j = c
    · subst ej
      rw [upd_same]
      unfold recW
      rw [cell_set_ne (by omega), cell_set_ne (by omega), cell_set_eq (v := .bool (wFilled (S.wr j))) (by rw [cell_set_ne (by omega), cell_set_ne (by omega)]; exact h.filled j hj)]
      cases v <;> rfl
    · rw [upd_ne _ _ _ ej, far _ (by omega) (by omega) (by omega) (by omega) (by omega)]; exact h.filled j hj
  · show World.cell? _ _ = some (Value.int .i64 (wVal (upd S.wr c (some v) j)))
    rw [e]
    by_cases ej : j = c
    · subst ej
      rw [upd_same]
      unfold recW
      rw [cell_set_ne (by omega), cell_set_eq (v := .int .i64 (wVal (S.wr j))) (by rw [cell_set_ne (by omega), cell_set_ne (by omega), cell_set_ne (by omega)]; exact h.val j hj)]
      cases v <;> rfl
    · rw [upd_ne _ _ _ ej, far _ (by omega) (by omega) (by omega) (by omega) (by omega)]; exact h.val j hj
  · show World.cell? _ _ = some (Value.int .i64 (upd S.tm c (S.snap + (S.made + 1)) j))
    rw [e]
    by_cases ej : j = c
    · subst ej
      rw [upd_same]
      unfold recW
      rw [cell_set_eq (v := .int .i64 (S.tm j)) (by rw [cell_set_ne (by omega), cell_set_ne (by omega), cell_set_ne (by omega), cell_set_ne (by omega)]; exact h.tm j hj)]
    · rw [upd_ne _ _ _ ej, far _ (by omega) (by omega) (by omega) (by omega) (by omega)]; exact h.tm j hj
  · rw [e, far _ (by omega) (by omega) (by omega) (by omega) (by omega)]; exact h.mks

theorem frozen_blk {w : World} {b : Nat} {cs : Array Value} {t : TypeId} (hb : w.heap[b]? = some (.cells cs t (0, 0))) (i : Nat) : w.frozen? ⟨b, i, none⟩ = false := by simp [World.frozen?, hb]

/-- One write more can be counted. -/
def PSes.more (S : PSes) : Prop := 0 ≤ S.snap ∧ S.snap + (S.made + 1) ≤ 9223372036854775807
theorem record_to (b o c : Nat) (v : Option Int) (S : PSes) (w : World) (hc : c < 60) {cs : Array Value} {t : TypeId} (hb : w.heap[b]? = some (.cells cs t (0, 0))) (h : SesAt w b o S) (hm : S.more) :
    Calls Tryz.prog 81 #[.pointer (some ⟨b, o, none⟩), .int .i64 c, .agg #[.bool v.isSome, .int .i64 (v.getD 0)]] w fun e w' => e = .returned (.tuple #[]) ∧ PutTo b o (S.put c v) w w' := by
  refine (record_any b o c v.isSome (v.getD 0) S.made S.snap w hc _ _ _ _ h.snap h.cnt h.ok.1 hm.1 hm.2 (h.made c hc) (h.filled c hc) (h.val c hc) (h.tm c hc) (frozen_blk hb) (lt_of_block hb)).mono ?_
  rintro e w' ⟨rfl, n, rfl⟩
  exact ⟨rfl, put_to hb h hc v _ _⟩

set_option maxRecDepth 20000 in
theorem sput_any (b o c : Nat) (v : Int) (S : PSes) (w : World) (hc : c < 60) {cs : Array Value} {t : TypeId} (hb : w.heap[b]? = some (.cells cs t (0, 0))) (h : SesAt w b o S) (hm : S.more) :
    Calls Tryz.prog 43 #[.pointer (some ⟨b, o, none⟩), .int .i64 c, .int .i64 v] w fun e w' => e = .returned (.tuple #[]) ∧ PutTo b o (S.put c (some v)) w w' := by
  have HR := hid (record_to b o c (some v) S w hc hb h hm)
  clear hb h hm
  go_enter Tryz.func43, Tryz.ntmps43
  go_wp2_with fail
  go_at_call 81
  refine HR.out.mono ?_
  rintro e w' ⟨rfl, h⟩
  have H := hid h
  clear h
  go_wp2
  go_returns
  exact ⟨rfl, H.out⟩

set_option maxRecDepth 20000 in
theorem sclear_any (b o c : Nat) (S : PSes) (w : World) (hc : c < 60) {cs : Array Value} {t : TypeId} (hb : w.heap[b]? = some (.cells cs t (0, 0))) (h : SesAt w b o S) (hm : S.more) :
    Calls Tryz.prog 48 #[.pointer (some ⟨b, o, none⟩), .int .i64 c] w fun e w' => e = .returned (.tuple #[]) ∧ PutTo b o (S.put c none) w w' := by
  have HR := hid (record_to b o c none S w hc hb h hm)
  clear hb h hm
  go_enter Tryz.func48, Tryz.ntmps48
  go_wp2_with fail
  go_at_call 81
  refine HR.out.mono ?_
  rintro e w' ⟨rfl, h⟩
  have H := hid h
  clear h
  go_wp2
  go_returns
  exact ⟨rfl, H.out⟩

end Go.Proofs.YthlhbjnkohinmaaGreat

/- Facts, as the program reads and writes them; what a session sees. -/
namespace Go.Proofs.YthlhbjnkohinmaaGreat
open Go.RowKit

theorem bt_two {s : ByteArray} {k : Nat} (hs : 2 ≤ s.size) (hk : k < 2) : bt (s.extract 0 2) k = bt s k := by
  have h1 : (s.extract 0 2).size = 2 := by simp; omega
  unfold bt
  rw [dif_pos (by omega), dif_pos (by omega)]
  congr 1
  congr 1
  simp [ByteArray.getElem_extract]

set_option maxRecDepth 20000 in
set_option maxHeartbeats 1000000 in
theorem rdfact_any (s : ByteArray) (w : World) (_hs63 : s.size < 9223372036854775808) :
    Calls Tryz.prog 42 #[.string s] w fun e w' => e = .returned (rdFact s) ∧ w' = w := by
  obtain ⟨r, hr⟩ : ∃ r, r = rdFact s := ⟨_, rfl⟩
  rw [← hr]
  by_cases hs3 : s.size = 3
  · have s2 : 2 < s.size := by omega
    have bb2 := bt_bd s 2
    have hz : (s.extract 0 2).size = 2 := by simp; omega
    have hcn : cellN (s.extract 0 2) = cellN s := by unfold cellN; rw [bt_two (by omega) (by omega), bt_two (by omega) (by omega)]
    have hb : factB s = (cellB (s.extract 0 2) && digB (bt s 2)) := by
      simp only [factB, cellB, hs3, hz, bt_two (show 2 ≤ s.size by omega) (show 0 < 2 by omega), bt_two (show 2 ≤ s.size by omega) (show 1 < 2 by omega)]
      simp
    have HC := hid (fun W => rdcell_any (s.extract 0 2) W (by omega))
    cases hc : cellB (s.extract 0 2) with
    | false =>
      have e1 : rdCell (s.extract 0 2) = .tuple #[.int .i64 0, .bool false] := by unfold rdCell; rw [hc]; rfl
      rw [e1] at HC
      have HU : Hid (r = .tuple #[.int .i64 0, .int .i64 0, .bool false]) := hid (by rw [hr]; unfold rdFact; rw [hb, hc]; rfl)
      cases h2 : digB (bt s 2) with
      | false =>
        have HD := hid (fun W => cdigit_no (bt s 2) W bb2.1 bb2.2 h2)
        rw [bt_in s2] at HD
        clear hb hc h2 bb2 hr e1 hcn hz
        go_enter Tryz.func42, Tryz.ntmps42
        go_wp2_with fail
        go_at_call 47
        refine (HC.out _).mono ?_
        rintro e w' ⟨rfl, rfl⟩
        go_wp2_with fail
        go_at_call 80
        refine (HD.out _).mono ?_
        rintro e w' ⟨rfl, rfl⟩
        go_wp2
        go_ret3
        exact ⟨by rw [HU.out]; rfl, rfl⟩
      | true =>
        have HD := hid (fun W => cdigit_yes (bt s 2) W bb2.1 bb2.2 h2)
        rw [bt_in s2] at HD
        clear hb hc h2 bb2 hr e1 hcn hz
        go_enter Tryz.func42, Tryz.ntmps42
        go_wp2_with fail
        go_at_call 47
        refine (HC.out _).mono ?_
        rintro e w' ⟨rfl, rfl⟩
        go_wp2_with fail
        go_at_call 80
        refine (HD.out _).mono ?_
        rintro e w' ⟨rfl, rfl⟩
        go_wp2
        go_ret3
        exact ⟨by rw [HU.out]; rfl, rfl⟩
    | true =>
      have e1 : rdCell (s.extract 0 2) = .tuple #[.int .i64 (cellN s), .bool true] := by unfold rdCell; rw [hc, hcn]; rfl
      rw [e1] at HC
      cases h2 : digB (bt s 2) with
      | false =>
        have HU : Hid (r = .tuple #[.int .i64 0, .int .i64 0, .bool false]) := hid (by rw [hr]; unfold rdFact; rw [hb, hc, h2]; rfl)
        have HD := hid (fun W => cdigit_no (bt s 2) W bb2.1 bb2.2 h2)
        rw [bt_in s2] at HD
        clear hb hc h2 bb2 hr e1 hcn hz
        go_enter Tryz.func42, Tryz.ntmps42
        go_wp2_with fail
        go_at_call 47
        refine (HC.out _).mono ?_
        rintro e w' ⟨rfl, rfl⟩
        go_wp2_with fail
        go_at_call 80
        refine (HD.out _).mono ?_
        rintro e w' ⟨rfl, rfl⟩
        go_wp2
        go_ret3
        exact ⟨by rw [HU.out]; rfl, rfl⟩
      | true =>
        have HU : Hid (r = .tuple #[.int .i64 (cellN s), .int .i64 (bt s 2 - 48), .bool true]) := hid (by rw [hr]; unfold rdFact; rw [hb, hc, h2]; rfl)
        have HD := hid (fun W => cdigit_yes (bt s 2) W bb2.1 bb2.2 h2)
        rw [bt_in s2] at HD HU
        clear hb hc h2 bb2 hr e1 hcn hz
        go_enter Tryz.func42, Tryz.ntmps42
        go_wp2_with fail
        go_at_call 47
        refine (HC.out _).mono ?_
        rintro e w' ⟨rfl, rfl⟩
        go_wp2_with fail
        go_at_call 80
        refine (HD.out _).mono ?_
        rintro e w' ⟨rfl, rfl⟩
        go_wp2
        go_ret3
        exact ⟨by rw [HU.out]; rfl, rfl⟩
  · have HU : Hid (r = .tuple #[.int .i64 0, .int .i64 0, .bool false]) := hid (by rw [hr]; simp [rdFact, factB, hs3])
    clear hr
    go_enter Tryz.func42, Tryz.ntmps42
    go_wp2
    go_ret3
    exact ⟨by rw [HU.out]; rfl, rfl⟩

/-- A fact: its cell, its value and its time. -/
abbrev PFact := Nat × Int × Int
def factV (q : PFact) : Value := .agg #[.int .i64 ((q.1 : Int) / 10), .int .i64 ((q.1 : Int) % 10), .int .i64 q.2.1, .int .i64 q.2.2]

set_option maxRecDepth 20000 in
set_option maxHeartbeats 1000000 in
theorem newfact_any (k : Nat) (v t : Int) (w : World) (hk : k < 60) :
    Calls Tryz.prog 109 #[.int .i64 k, .int .i64 v, .int .i64 t] w fun e w' => e = .returned (factV (k, v, t)) ∧ w.grownBy w' none := by
  unfold factV
  go_enter Tryz.func109, Tryz.ntmps109
  go_wp2
  refine bodyPost_ret (results_cell_row Tryz.results109 _ _ _ _ _ _ _ rfl (heap_alloc_new _ _) Tryz.underlying114 rfl (by kernel_rfl)) rfl ⟨rfl, grown_alloc (grown_refl _ _) _⟩

set_option maxRecDepth 20000 in
set_option maxHeartbeats 1000000 in
theorem facttext_any (k : Nat) (v t : Int) (w : World) (hk : k < 60) (hv : 0 ≤ v) (hv2 : v ≤ 9) :
    Calls Tryz.prog 50 #[factV (k, v, t)] w fun e w' => e = .returned (.string (factP k v)) ∧ w.grownBy w' none := by
  have h1 : (97 : Int) + (k : Int) / 10 ≤ 255 := by omega
  have h2 : (48 : Int) + (k : Int) % 10 ≤ 255 := by omega
  have h3 : (48 : Int) + v ≤ 255 := by omega
  have hcv := run_convert_bytes_arg (P := Tryz.prog) ((w.alloc (.cells #[.int .i64 ((k : Int) / 10), .int .i64 ((k : Int) % 10), .int .i64 v, .int .i64 t] 114)).alloc (.cells #[.int .u8 (97 + (k : Int) / 10), .int .u8 (48 + (k : Int) % 10), .int .u8 (48 + v)] 5)) 160 5 Tryz.underlying160 Tryz.underlying5 (w.heap.size + 1) 0 3 3 [97 + (k : Int) / 10, 48 + (k : Int) % 10, 48 + v] rfl (by
    intro i hi
    rw [World.cell?_alloc_at _ _ _ _ (by simp)]
    match i, hi with
    | 0, _ => rfl
    | 1, _ => rfl
    | 2, _ => rfl) 9 Tryz.underlying9
  unfold factV
  go_enter Tryz.func50, Tryz.ntmps50
  go_wp2
  go_ret
  exact ⟨rfl, grown_alloc (grown_alloc (grown_refl _ _) _) _⟩

end Go.Proofs.YthlhbjnkohinmaaGreat
