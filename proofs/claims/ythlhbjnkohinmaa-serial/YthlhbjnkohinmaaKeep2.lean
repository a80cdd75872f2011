/- The book of Serial in memory: what only reads it. -/
import Derived.Test.YthlhbjnkohinmaaKeep1
namespace Go.Proofs.Ythlhbjnkohinmaa
open Go.RowKit

/-- A client lies in block g. -/
structure CliAt (w : World) (g : Nat) (C : Cli) : Prop where
  block : ∃ cs, w.heap[g]? = some (.cells cs 68 (0, 0))
  num : w.cell? ⟨g, 0, none⟩ = some (.int .i64 C.num)
  begun : w.cell? ⟨g, 1, none⟩ = some (.int .i64 C.begun)
  wrote : ∀ c, c < 60 → w.cell? ⟨g, 2 + c, none⟩ = some (.bool (C.wrote c))
  vals : ∀ c, c < 60 → w.cell? ⟨g, 62 + c, none⟩ = some (.int .u8 (C.vals c))
def CliA (v : Value) (C : Cli) : Asn := fun w f => ∃ g, v = .pointer (some ⟨g, 0, none⟩) ∧ CliAt w g C ∧ f = [g]
theorem CliAt.lt {w : World} {g : Nat} {C : Cli} (h : CliAt w g C) : g < w.heap.size := by
  obtain ⟨cs, hb⟩ := h.block
  exact lt_of_block hb
theorem CliAt.fr {w w' : World} {g : Nat} {C : Cli} {S : List Nat} (h : CliAt w g C) (hf : Fr S w w') (hs : g ∉ S) : CliAt w' g C := by
  have hl := h.lt
  obtain ⟨cs, hb⟩ := h.block
  have e := cell_fr hf hl hs
  exact ⟨⟨cs, (hf.block g hl hs).trans hb⟩, (e _).trans h.num, (e _).trans h.begun, fun c hc => (e _).trans (h.wrote c hc), fun c hc => (e _).trans (h.vals c hc)⟩
theorem CliA.framed (v : Value) (C : Cli) : Framed (CliA v C) := by
  rintro S w w' f ⟨g, e, h, rfl⟩ hf hs
  exact ⟨g, e, h.fr hf (hs g (by simp)), rfl⟩
theorem CliA.within (v : Value) (C : Cli) : Within (CliA v C) := by
  rintro w f ⟨g, e, h, rfl⟩ k hk
  rw [List.mem_singleton.mp hk]
  exact h.lt

/-- The book lies in block b, its clients being the value v. -/
structure BkAt (w : World) (b : Nat) (B : Bk) (v : Value) : Prop where
  block : ∃ cs, w.heap[b]? = some (.cells cs 31 (0, 0))
  cls : w.cell? ⟨b, 0, none⟩ = some v
  commits : w.cell? ⟨b, 1, none⟩ = some (.int .i64 B.commits)
  latest : ∀ c, c < 60 → w.cell? ⟨b, 2 + c, none⟩ = some (.int .i64 (B.latest c))
  vals : ∀ c, c < 60 → w.cell? ⟨b, 62 + c, none⟩ = some (.int .u8 (B.vals c))
def BkA (b : Nat) (B : Bk) : Asn := fun w f => ∃ v ps f2 f3, BkAt w b B v ∧ RowA 69 1 v B.cls.length ps w f2 ∧ EachA CliA ps B.cls w f3 ∧ f = b :: (f2 ++ f3)
theorem BkAt.lt {w : World} {b : Nat} {B : Bk} {v : Value} (h : BkAt w b B v) : b < w.heap.size := by
  obtain ⟨cs, hb⟩ := h.block
  exact lt_of_block hb
theorem BkAt.fr {w w' : World} {b : Nat} {B : Bk} {v : Value} {S : List Nat} (h : BkAt w b B v) (hf : Fr S w w') (hs : b ∉ S) : BkAt w' b B v := by
  have hl := h.lt
  obtain ⟨cs, hb⟩ := h.block
  have e := cell_fr hf hl hs
  exact ⟨⟨cs, (hf.block b hl hs).trans hb⟩, (e _).trans h.cls, (e _).trans h.commits, fun c hc => (e _).trans (h.latest c hc), fun c hc => (e _).trans (h.vals c hc)⟩
theorem BkA.framed (b : Nat) (B : Bk) : Framed (BkA b B) := by
  rintro S w w' f ⟨v, ps, f2, f3, h1, h2, h3, rfl⟩ hf hs
  exact ⟨v, ps, f2, f3, h1.fr hf (hs b (by simp)), RowA.framed _ _ _ _ _ h2 hf (fun k hk => hs k (by simp [hk])), EachA.framed CliA.framed _ _ h3 hf (fun k hk => hs k (by simp [hk])), rfl⟩
theorem BkA.within (b : Nat) (B : Bk) : Within (BkA b B) := by
  rintro w f ⟨v, ps, f2, f3, h1, h2, h3, rfl⟩ k hk
  rcases List.mem_cons.mp hk with rfl | hk
  · exact h1.lt
  · rcases List.mem_append.mp hk with hk | hk
    · exact RowA.within _ _ _ _ _ h2 k hk
    · exact EachA.within CliA.within _ _ h3 k hk

set_option maxRecDepth 20000 in
set_option maxHeartbeats 1000000 in
theorem bfind_any (b : Nat) (B : Bk) (v : Value) (ps : List Value) (f3 : List Nat) (n : Int) (w : World) (h : BkAt w b B v) (hrow : w.ownsRow 0 69 1 v B.cls.length ps) (hcl : EachA CliA ps B.cls w f3) (hlen : B.cls.length ≤ 9223372036854775807) :
    Calls Try.prog 28 #[.pointer (some ⟨b, 0, none⟩), .int .i64 n] w fun e w' => e = .returned (match bfind B n with | some i => ps.getD i (.pointer none) | none => .pointer none) ∧ w' = w := by
  obtain ⟨a, m, cp, rfl⟩ := own_slice hrow
  have em := own_len hrow
  subst em
  have c0 := h.cls
  have hpl := EachA.len hcl
  have HCL := hid hcl
  clear hcl h
  obtain ⟨r, hr⟩ : ∃ r, r = (match bfind B n with | some i => ps.getD i (.pointer none) | none => .pointer none) := ⟨_, rfl⟩
  rw [← hr]
  have HR := hid hr
  clear hr
  go_enter Try.func28, Try.ntmps28
  go_wp2_with fail
  go_loop [5] (fun t => ∃ k : Nat, k ≤ B.cls.length ∧ t = .int .i64 k ∧ ∀ j (h : j < B.cls.length), j < k → ¬ (B.cls[j].num = n ∧ n > 0)) (fun t => B.cls.length - (intOf t).toNat)
  case atStart => exact ⟨0, by omega, rfl, fun j _ h => by omega⟩
  case round =>
    obtain ⟨k, hk, rfl, hno⟩ := hrel
    have HN := hid hno
    clear hno
    by_cases hlt : k < B.cls.length
    · have hlt2 : k < ps.length := by omega
      obtain ⟨gr, rfl, _, hgb, hgl, hcell⟩ := own_cell hrow (by omega)
      obtain ⟨_, ⟨g, hpk, hca, _⟩, _⟩ := EachA.get HCL.out k hlt2 hlt
      have d0 : w.cell? ⟨gr, k, none⟩ = some (.pointer (some ⟨g, 0, none⟩)) := by rw [← hpk]; exact hcell k _ (List.getElem?_eq_getElem hlt2)
      have d1 := hca.num
      obtain ⟨nn, hnn⟩ : ∃ nn, nn = B.cls[k].num := ⟨_, rfl⟩
      rw [← hnn] at d1
      have HNN := hid hnn
      have HPK := hid hpk
      clear hcell hca hnn hpk
      by_cases he : nn = n
      · have q : (nn == n) = true := by simpa using he
        by_cases hp : n > 0
        · have HU : Hid (r = .pointer (some ⟨g, 0, none⟩)) := hid (by
            have e : bfind B n = some k := by
              unfold bfind
              rw [if_pos hp, List.findIdx?_eq_some_iff_getElem]
              refine ⟨hlt, by rw [← HNN.out]; simpa using he, fun j hj => ?_⟩
              have := HN.out j (by omega) hj
              have h2 : ¬ B.cls[j].num = n := fun e => this ⟨e, hp⟩
              simpa using h2
            rw [HR.out, e]
            simp only [List.getD, List.getElem?_eq_getElem hlt2, Option.getD_some]
            exact HPK.out)
          clear he
          go_wp2
          go_ret
          exact ⟨by rw [HU.out]; rfl, rfl⟩
        · have HN' : Hid (∀ j (h : j < B.cls.length), j < k + 1 → ¬ (B.cls[j].num = n ∧ n > 0)) := hid (fun j hj hjk hc => hp hc.2)
          clear he
          go_wp2
          go_round
          case rel => exact ⟨k + 1, by omega, by go_num, HN'.out⟩
          case measure => simp [intOf]; omega
      · have q : (nn == n) = false := by simpa using he
        have HN' : Hid (∀ j (h : j < B.cls.length), j < k + 1 → ¬ (B.cls[j].num = n ∧ n > 0)) := hid (by
          intro j hj hjk hc
          by_cases e : j = k
          · subst e; exact he (HNN.out.trans hc.1)
          · exact HN.out j hj (by omega) hc)
        clear he
        go_wp2
        go_round
        case rel => exact ⟨k + 1, by omega, by go_num, HN'.out⟩
        case measure => simp [intOf]; omega
    · have HU : Hid (r = .pointer none) := hid (by
        have e : bfind B n = none := by
          unfold bfind
          split
          · rename_i hp
            rw [List.findIdx?_eq_none_iff]
            intro C hC
            obtain ⟨j, hj, rfl⟩ := List.mem_iff_getElem.mp hC
            have := HN.out j hj (by omega)
            have h2 : ¬ B.cls[j].num = n := fun e => this ⟨e, hp⟩
            simpa using h2
          · rfl
        rw [HR.out, e])
      go_wp2
      go_ret
      exact ⟨by rw [HU.out]; rfl, rfl⟩

/-- The number of the cell that a text begins with, or -1. -/
def cellK (s : ByteArray) : Int := if 2 ≤ s.size ∧ clsB (bt s 0) = true ∧ digB (bt s 1) = true then (cellN s : Int) else -1

set_option maxRecDepth 20000 in
set_option maxHeartbeats 1000000 in
theorem kcell_any (s : ByteArray) (w : World) (_hs63 : s.size < 9223372036854775808) :
    Calls Try.prog 29 #[.string s] w fun e w' => e = .returned (.int .i64 (cellK s)) ∧ Fr [] w w' := by
  obtain ⟨r, hr⟩ : ∃ r, r = cellK s := ⟨_, rfl⟩
  rw [← hr]
  by_cases hs2 : 2 ≤ s.size
  · have s0' : 0 < s.size := by omega
    have s1' : 1 < s.size := by omega
    have bb0 := bt_bd s 0
    have bb1 := bt_bd s 1
    obtain ⟨c0, hc0⟩ : ∃ c0, c0 = bt s 0 := ⟨_, rfl⟩
    obtain ⟨c1, hc1⟩ : ∃ c1, c1 = bt s 1 := ⟨_, rfl⟩
    have e0 : ((s[0]'s0').toNat : Int) = c0 := by rw [hc0, bt_in s0']
    have e1 : ((s[1]'s1').toNat : Int) = c1 := by rw [hc1, bt_in s1']
    rw [← hc0] at bb0
    rw [← hc1] at bb1
    have hcase : (97 ≤ c0 ∧ c0 ≤ 102 ∧ 48 ≤ c1 ∧ c1 ≤ 57) ∨ c0 < 97 ∨ (97 ≤ c0 ∧ 102 < c0) ∨ (97 ≤ c0 ∧ c0 ≤ 102 ∧ c1 < 48) ∨ (97 ≤ c0 ∧ c0 ≤ 102 ∧ 48 ≤ c1 ∧ 57 < c1) := by omega
    have hbad : ¬ (97 ≤ c0 ∧ c0 ≤ 102 ∧ 48 ≤ c1 ∧ c1 ≤ 57) → r = -1 := fun hn => by
      rw [hr]
      unfold cellK
      rw [if_neg]
      rintro ⟨_, h1, h2⟩
      simp only [clsB, digB, decide_eq_true_eq] at h1 h2
      omega
    rcases hcase with ⟨k1, k2, k3, k4⟩ | k1 | ⟨k1, k2⟩ | ⟨k1, k2, k3⟩ | ⟨k1, k2, k3, k4⟩
    · have HU : Hid (r = 10 * (c0 - 97) + (c1 - 48)) := hid (by
        rw [hr]
        unfold cellK
        rw [if_pos ⟨hs2, by simp only [clsB, decide_eq_true_eq]; omega, by simp only [digB, decide_eq_true_eq]; omega⟩]
        unfold cellN
        omega)
      clear hbad hr hc0 hc1
      go_enter Try.func29, Try.ntmps29
      go_wp2_with fail
      go_quiet ((fail))
      go_wp2_with fail
      go_ret
      exact ⟨ret_int HU.out.symm, (Fr.refl [] w).drewN _⟩
    all_goals
      have HU : Hid (r = -1) := hid (hbad (by omega))
      clear hbad hr hc0 hc1
      go_enter Try.func29, Try.ntmps29
      go_wp2_with fail
      go_ret
      exact ⟨ret_int HU.out.symm, Fr.refl [] w⟩
  · have HU : Hid (r = -1) := hid (by rw [hr]; unfold cellK; rw [if_neg (fun h => hs2 h.1)])
    clear hr
    go_enter Try.func29, Try.ntmps29
    go_wp2_with fail
    go_ret
    exact ⟨ret_int HU.out.symm, Fr.refl [] w⟩

end Go.Proofs.Ythlhbjnkohinmaa
