/- Rules that are overfull: what the program's check says of the rules that were read. -/
import Derived.Test.YthlhbjnkohinmaaRd8
namespace Go.Proofs.Ythlhbjnkohinmaa
open Go.RowKit

theorem flat_at {f : Nat → List Value} {m : Nat} (hf : ∀ p, (f p).length = m) : ∀ (L : List Nat) (k j : Nat) (hk : k < L.length), j < m → (L.flatMap f)[k * m + j]? = (f L[k])[j]?
  | p :: L, 0, j, _, hj => by
    simp only [List.flatMap_cons]
    rw [List.getElem?_append_left (by rw [hf]; omega)]
    simp
  | p :: L, k + 1, j, hk, hj => by
    simp only [List.flatMap_cons]
    rw [List.getElem?_append_right (by rw [hf]; have : (k + 1) * m = k * m + m := by rw [Nat.add_mul, Nat.one_mul]
                                       omega)]
    have e : (k + 1) * m + j - (f p).length = k * m + j := by rw [hf, Nat.add_mul, Nat.one_mul]; omega
    rw [e, flat_at hf L k j (by simpa using hk) hj]
    simp

theorem cds_at (s : ByteArray) (L : List Nat) (k j : Nat) (hk : k < L.length) (hj : j < 7) : (cdsCells s L)[k * 7 + j]? = ((cdV s L[k]).arr.toList)[j]? :=
  flat_at (f := fun p => (cdV s p).arr.toList) (m := 7) (fun _ => rfl) L k j hk hj
theorem acs_at (s : ByteArray) (L : List Nat) (k j : Nat) (hk : k < L.length) (hj : j < 8) : (acsCells s L)[k * 8 + j]? = ((acV s L[k]).arr.toList)[j]? :=
  flat_at (f := fun p => (acV s p).arr.toList) (m := 8) (fun _ => rfl) L k j hk hj

/-- The cells of an owned row, at the head of whatever block it is. -/
theorem own_cell {w : World} {base : Nat} {e : TypeId} {size : Nat} {a : Option Addr} {m c n : Nat} {xs : List Value} (h : w.ownsRow base e size (.slice a m c) n xs) (hn : 0 < n) :
    ∃ g, a = some ⟨g, 0, none⟩ ∧ m = n ∧ base ≤ g ∧ g < w.heap.size ∧ ∀ j u, xs[j]? = some u → w.cell? ⟨g, j, none⟩ = some u := by
  have hc := fun g => h.cells (g := g)
  have hlt := h.lt
  rcases h.2 with ⟨hv, h0⟩ | ⟨g, cap, cur, hv, hb, hh, _⟩
  · omega
  · cases hv
    refine ⟨g, rfl, rfl, hb, (hlt g rfl).2, fun j u hj => ?_⟩
    have := hc g rfl j u hj
    have hadd : (⟨g, 0, none⟩ : Addr).add j = ⟨g, j, none⟩ := by unfold Addr.add; split <;> simp_all
    rwa [hadd] at this
theorem own_len {w : World} {base : Nat} {e : TypeId} {size : Nat} {a : Option Addr} {m c n : Nat} {xs : List Value} (h : w.ownsRow base e size (.slice a m c) n xs) : m = n := by
  rcases h.2 with ⟨hv, h0⟩ | ⟨g, cap, cur, hv, hb, hh, _⟩
  · cases hv; exact h0.symm
  · cases hv; rfl

theorem cds_cells {w wr : World} {s : ByteArray} {L : List Nat} {B k m c : Nat} {a : Option Addr} {row : Option Nat} (h : w.ownsRow B 163 7 (.slice a m c) L.length (cdsCells s L)) (hg : w.grownBy wr row) (hrow : ∀ g, row = some g → g < B) (hk : k < L.length) :
    ∃ g, a = some ⟨g, 0, none⟩ ∧ g < w.heap.size ∧ B ≤ g ∧ wr.cell? ⟨g, k * 7, none⟩ = some (.int .i64 (cdV s L[k]).k) ∧ wr.cell? ⟨g, k * 7 + 1, none⟩ = some (.int .i64 (cdV s L[k]).c) ∧ wr.cell? ⟨g, k * 7 + 2, none⟩ = some (.int .u8 (cdV s L[k]).g) ∧ wr.cell? ⟨g, k * 7 + 3, none⟩ = some (.int .i64 (cdV s L[k]).a1) ∧ wr.cell? ⟨g, k * 7 + 4, none⟩ = some (.int .i64 (cdV s L[k]).a2) ∧ wr.cell? ⟨g, k * 7 + 5, none⟩ = some (.int .i64 (cdV s L[k]).b1) ∧ wr.cell? ⟨g, k * 7 + 6, none⟩ = some (.int .i64 (cdV s L[k]).b2) := by
  obtain ⟨g, rfl, _, hgb, hgl, hcell⟩ := own_cell h (by omega)
  have hne : some g ≠ row := by intro hx; have := hrow g hx.symm; omega
  have hce : ∀ j u, ((cdV s L[k]).arr.toList)[j]? = some u → j < 7 → wr.cell? ⟨g, k * 7 + j, none⟩ = some u := fun j u hj hj7 => hg.cell (hcell _ _ ((cds_at s L k j hk hj7).trans hj)) hne
  exact ⟨g, rfl, hgl, hgb, hce 0 _ rfl (by omega), hce 1 _ rfl (by omega), hce 2 _ rfl (by omega), hce 3 _ rfl (by omega), hce 4 _ rfl (by omega), hce 5 _ rfl (by omega), hce 6 _ rfl (by omega)⟩

theorem acs_cells {w wr : World} {s : ByteArray} {L : List Nat} {B k m c : Nat} {a : Option Addr} {row : Option Nat} (h : w.ownsRow B 175 8 (.slice a m c) L.length (acsCells s L)) (hg : w.grownBy wr row) (hrow : ∀ g, row = some g → g < B) (hk : k < L.length) :
    ∃ g, a = some ⟨g, 0, none⟩ ∧ g < w.heap.size ∧ B ≤ g ∧ wr.cell? ⟨g, k * 8, none⟩ = some (.int .i64 (acV s L[k]).k) ∧ wr.cell? ⟨g, k * 8 + 1, none⟩ = some (.int .i64 (acV s L[k]).c) ∧ wr.cell? ⟨g, k * 8 + 2, none⟩ = some (.int .i64 (acV s L[k]).a1) ∧ wr.cell? ⟨g, k * 8 + 3, none⟩ = some (.int .i64 (acV s L[k]).a2) ∧ wr.cell? ⟨g, k * 8 + 4, none⟩ = some (.int .i64 (acV s L[k]).a3) ∧ wr.cell? ⟨g, k * 8 + 5, none⟩ = some (.int .i64 (acV s L[k]).b1) ∧ wr.cell? ⟨g, k * 8 + 6, none⟩ = some (.int .i64 (acV s L[k]).b2) ∧ wr.cell? ⟨g, k * 8 + 7, none⟩ = some (.int .i64 (acV s L[k]).b3) := by
  obtain ⟨g, rfl, _, hgb, hgl, hcell⟩ := own_cell h (by omega)
  have hne : some g ≠ row := by intro hx; have := hrow g hx.symm; omega
  have hce : ∀ j u, ((acV s L[k]).arr.toList)[j]? = some u → j < 8 → wr.cell? ⟨g, k * 8 + j, none⟩ = some u := fun j u hj hj7 => hg.cell (hcell _ _ ((acs_at s L k j hk hj7).trans hj)) hne
  exact ⟨g, rfl, hgl, hgb, hce 0 _ rfl (by omega), hce 1 _ rfl (by omega), hce 2 _ rfl (by omega), hce 3 _ rfl (by omega), hce 4 _ rfl (by omega), hce 5 _ rfl (by omega), hce 6 _ rfl (by omega), hce 7 _ rfl (by omega)⟩

/-- How many patterns there are among conditions. -/
def patCount (s : ByteArray) (L : List Nat) : Nat := (L.filter fun p => (cdV s p).k == 1).length
def overB (s : ByteArray) (L K : List Nat) : Bool := decide (5 < L.length) || decide (4 < K.length) || decide (3 < patCount s L)
theorem patCount_le (s : ByteArray) (L : List Nat) : patCount s L ≤ L.length := List.length_filter_le _ _
theorem patCount_snoc (s : ByteArray) (L : List Nat) (k : Nat) (hk : k < L.length) : patCount s (L.take (k + 1)) = patCount s (L.take k) + if (cdV s L[k]).k = 1 then 1 else 0 := by
  rw [List.take_succ_eq_append_getElem hk]
  unfold patCount
  rw [List.filter_append, List.length_append]
  by_cases h : (cdV s L[k]).k = 1 <;> simp [h]

set_option maxHeartbeats 1000000 in
theorem overfull_any (s : ByteArray) (L K : List Nat) (x : Int) (a1 a2 : Option Addr) (m1 c1 m2 c2 B : Nat) (w : World)
    (h1 : w.ownsRow B 163 7 (.slice a1 m1 c1) L.length (cdsCells s L)) (h2 : w.ownsRow B 175 8 (.slice a2 m2 c2) K.length (acsCells s K)) :
    Calls Try.prog 82 #[.agg #[.int .i64 x, .slice a1 m1 c1, .slice a2 m2 c2]] w fun e w' => e = .returned (.bool (overB s L K)) ∧ w.grownBy w' none := by
  have e1 := own_len h1
  have e2 := own_len h2
  subst e1 e2
  by_cases k1 : 5 < L.length
  · have hov : overB s L K = true := by simp [overB, k1]
    rw [hov]
    go_enter Try.func82, Try.ntmps82
    go_wp2
    go_ret
    exact ⟨rfl, grown_alloc (grown_refl _ _) _⟩
  · by_cases k2 : 4 < K.length
    · have hov : overB s L K = true := by simp [overB, k2]
      rw [hov]
      go_enter Try.func82, Try.ntmps82
      go_wp2
      go_ret
      exact ⟨rfl, grown_alloc (grown_refl _ _) _⟩
    · have hov : overB s L K = decide (3 < patCount s L) := by simp [overB, k1, k2]
      rw [hov]
      clear hov
      go_enter Try.func82, Try.ntmps82
      go_wp2_with fail
      go_loopw [3, 19] (fun n t wr => ∃ k : Nat, k ≤ L.length ∧ t = .int .i64 k ∧ n = .int .i64 (patCount s (L.take k) : Nat) ∧ w.grownBy wr none) (fun _ t _ => L.length - (intOf t).toNat)
      case atStart => exact ⟨0, Nat.zero_le _, rfl, rfl, grown_alloc (grown_refl _ _) _⟩
      case round =>
        obtain ⟨k, hk, rfl, rfl, hg⟩ := hrel
        by_cases hlt : k < L.length
        · obtain ⟨g, rfl, hgl, hgb, d0, d1, d2, d3, d4, d5, d6⟩ := cds_cells h1 hg (fun g hg => by cases hg) hlt
          have hpc := patCount_le s (L.take k)
          have hpl : (L.take k).length ≤ L.length := by simp; omega
          by_cases hk1 : (cdV s L[k]).k = 1
          · have HS := hid (patCount_snoc s L k hlt)
            rw [if_pos hk1] at HS
            go_wp2
            go_roundw
            case rel => exact ⟨k + 1, by omega, by go_num, by rw [HS.out]; go_num, grown_alloc hg _⟩
            case measure => simp [intOf]; omega
          · have HS := hid (patCount_snoc s L k hlt)
            rw [if_neg hk1] at HS
            have hk2 : ((cdV s L[k]).k == 1) = false := by simpa using hk1
            go_wp2
            go_roundw
            case rel => exact ⟨k + 1, by omega, by go_num, by rw [HS.out]; go_num, grown_alloc hg _⟩
            case measure => simp [intOf]; omega
        · go_wp2
          go_ret
          have e : L.take k = L := List.take_of_length_le (by omega)
          rw [e]
          exact ⟨ret_bool (by rw [decide_eq_decide]; omega), hg⟩

/-- The first number below n of which something holds. -/
def FirstBad (bad : Nat → Prop) (n : Nat) : Option Nat → Prop
  | some m => m < n ∧ bad m ∧ ∀ j, j < m → ¬ bad j
  | none => ∀ j, j < n → ¬ bad j
theorem FirstBad.unique {bad : Nat → Prop} {n : Nat} : ∀ {a b : Option Nat}, FirstBad bad n a → FirstBad bad n b → a = b
  | some a, some b, ⟨h1, h2, h3⟩, ⟨k1, k2, k3⟩ => by
    rcases Nat.lt_trichotomy a b with h | h | h
    · exact absurd h2 (k3 a h)
    · rw [h]
    · exact absurd k2 (h3 b h)
  | some a, none, ⟨h1, h2, h3⟩, h => absurd h2 (h a h1)
  | none, some b, h, ⟨k1, k2, k3⟩ => absurd k2 (h b k1)
  | none, none, _, _ => rfl

theorem Parts_at {w : World} {B : Nat} {s : ByteArray} : ∀ (R : List RuleP) (xs : List Value), Parts w B s R xs → ∀ (k : Nat) (hk : k < R.length), ∃ a1 m1 c1 a2 m2 c2, xs[k * 3]? = some (.int .i64 (bt s R[k].1 - 48)) ∧ xs[k * 3 + 1]? = some (.slice a1 m1 c1) ∧ xs[k * 3 + 2]? = some (.slice a2 m2 c2) ∧
    w.ownsRow B 163 7 (.slice a1 m1 c1) R[k].2.1.length (cdsCells s R[k].2.1) ∧ w.ownsRow B 175 8 (.slice a2 m2 c2) R[k].2.2.length (acsCells s R[k].2.2)
  | r :: R, xs, h, 0, _ => by
    obtain ⟨b1, n1, d1, b2, n2, d2, ys, rfl, k1, k2, k3⟩ := h
    exact ⟨b1, n1, d1, b2, n2, d2, rfl, rfl, rfl, k1, k2⟩
  | r :: R, xs, h, k + 1, hk => by
    obtain ⟨b1, n1, d1, b2, n2, d2, ys, rfl, k1, k2, k3⟩ := h
    obtain ⟨a1, m1, c1, a2, m2, c2, e1, e2, e3, e4, e5⟩ := Parts_at R ys k3 k (by simpa using hk)
    have f1 : (k + 1) * 3 = k * 3 + 1 + 1 + 1 := by omega
    rw [f1]
    exact ⟨a1, m1, c1, a2, m2, c2, by simpa using e1, by simpa using e2, by simpa using e3, by simpa using e4, by simpa using e5⟩

def ovBad (s : ByteArray) (R : List RuleP) (k : Nat) : Prop := ∃ h : k < R.length, 9 ≤ k ∨ overB s R[k].2.1 R[k].2.2 = true

/-- What a search for the first rule of some kind answers. -/
def found (o : Option Nat) : Value := match o with | some m => .tuple #[.int .i64 (m : Int), .bool true] | none => .tuple #[.int .i64 0, .bool false]

set_option maxHeartbeats 1000000 in
theorem firstOverfull_any (s : ByteArray) (R : List RuleP) (B : Nat) (v : Value) (w : World) (hR : R.length ≤ 400) (h : RulesOwn w B s v R) :
    Calls Try.prog 66 #[v] w fun e w' => ∃ o, FirstBad (ovBad s R) R.length o ∧ e = .returned (found o) ∧ w.grownBy w' none := by
  obtain ⟨xs, hown, hpar⟩ := h
  obtain ⟨a, m, c, rfl⟩ := own_slice hown
  have e1 := own_len hown
  subst e1
  go_enter Try.func66, Try.ntmps66
  go_wp2_with fail
  go_loopw [8] (fun t wr => ∃ k : Nat, k ≤ R.length ∧ t = .int .i64 k ∧ w.grownBy wr none ∧ ∀ j, j < k → ¬ ovBad s R j) (fun t _ => R.length - (intOf t).toNat)
  case atStart => exact ⟨0, Nat.zero_le _, rfl, grown_refl _ _, fun j hj => by omega⟩
  case round =>
    obtain ⟨k, hk, rfl, hg, hno⟩ := hrel
    have HN := hid hno
    clear hno
    by_cases hlt : k < R.length
    · obtain ⟨a1, m1, c1, a2, m2, c2, x0, x1, x2, o1, o2⟩ := Parts_at R xs hpar k hlt
      obtain ⟨g, rfl, _, hgb, hgl, hcell⟩ := own_cell hown (by omega)
      have d0 := hg.cell (hcell _ _ x0) (by simp)
      have d1 := hg.cell (hcell _ _ x1) (by simp)
      have d2 := hg.cell (hcell _ _ x2) (by simp)
      have o1' := own_kept o1 hg (fun g hg => by cases hg)
      have o2' := own_kept o2 hg (fun g hg => by cases hg)
      clear hcell x0 x1 x2 o1 o2
      by_cases h9 : 9 ≤ k
      · go_wp2
        go_ret2
        exact ⟨some k, ⟨hlt, ⟨hlt, .inl h9⟩, HN.out⟩, rfl, grown_alloc hg _⟩
      · have HOV := hid (overfull_any s R[k].2.1 R[k].2.2 (bt s R[k].1 - 48) a1 a2 m1 c1 m2 c2 B _ (o1'.alloc (.cells #[.int .i64 (bt s R[k].1 - 48), .slice a1 m1 c1, .slice a2 m2 c2] 130)) (o2'.alloc _))
        clear o1' o2'
        by_cases hb : overB s R[k].2.1 R[k].2.2 = true
        · rw [hb] at HOV
          have HB := hid hb
          clear hb
          go_wp2_with (go_at_call 82; refine HOV.out.mono ?_; rintro e w2 ⟨rfl, hg2⟩)
          go_ret2
          exact ⟨some k, ⟨hlt, ⟨hlt, .inr HB.out⟩, HN.out⟩, rfl, grown_trans (grown_alloc hg _) hg2⟩
        · have hb' : overB s R[k].2.1 R[k].2.2 = false := by simpa using hb
          rw [hb'] at HOV
          have HB := hid hb
          clear hb hb'
          go_wp2_with (go_at_call 82; refine HOV.out.mono ?_; rintro e w2 ⟨rfl, hg2⟩)
          go_roundw
          case rel =>
            refine ⟨k + 1, by omega, by go_num, grown_trans (grown_alloc hg _) hg2, ?_⟩
            intro j hj
            by_cases e : j = k
            · subst e; rintro ⟨_, h | h⟩
              · exact h9 h
              · exact HB.out h
            · exact HN.out j (by omega)
          case measure => simp [intOf]; omega
    · go_wp2
      go_ret2
      refine ⟨none, ?_, rfl, hg⟩
      intro j hj
      exact HN.out j (by omega)

end Go.Proofs.Ythlhbjnkohinmaa
