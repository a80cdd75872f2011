/- The document's checks of a rule: how many patterns, and whether its variables are bound. -/
import Derived.Test.YthlhbjnkohinmaaGreatRefRead
namespace Go.Proofs.YthlhbjnkohinmaaGreat
open Go.RowKit

theorem cd_pos {s : ByteArray} {p : Nat} (h : cdOk s p = true) : 3 ≤ cdLen s p ∧ p + cdLen s p ≤ s.size ∧ (clsB (bt s p) = true → cdLen s p = 3) := by
  have hg := cd_goes h
  unfold cdOk at h
  by_cases h33 : bt s p = 33
  · have hlt : p < s.size := lt_of_bt (by omega)
    have hle := cdLen_le hlt
    simp only [h33, if_true] at h
    have e : cdLen s p = 4 := by unfold cdLen; simp only [h33, if_true]; have : patLen s (p + 1) = 3 := by simpa using h
                                 omega
    exact ⟨by omega, hle, fun hc => by rw [h33] at hc; exact absurd hc (by decide)⟩
  · by_cases hc : clsB (bt s p) = true
    · have hle := cdLen_le (lt_of_cls hc)
      simp only [h33, hc, if_false, if_true] at h
      have e : cdLen s p = 3 := by unfold cdLen; simp only [h33, hc, if_false, if_true]; simpa using h
      exact ⟨by omega, hle, fun _ => e⟩
    · simp only [h33, hc, if_false] at h
      have e : cdLen s p = 3 := by unfold cdLen; simp only [h33, hc, if_false]; simpa using h
      have ht : tstLen s p = 3 := by simpa using h
      have hlt : p < s.size := by
        unfold tstLen at ht
        split at ht
        · exact lt_of_sim (by assumption)
        · omega
      exact ⟨by omega, cdLen_le hlt, fun _ => e⟩

theorem pattern_any (u : ByteArray) (w : World) (h : 0 < u.size) :
    Calls Tryz.prog 107 #[.string u] w fun e w' => e = .returned (.bool (clsB (bt u 0))) ∧ w = w' := by
  have hb := bt_bd u 0
  have HB := hid (bt_in h)
  rw [HB.out] at hb ⊢
  go_enter Tryz.func107, Tryz.ntmps107
  go_wp2_with (go_at_call 45; refine (class_any _ _ hb.1 hb.2).mono ?_; rintro e w' ⟨rfl, rfl⟩)
  go_ret
  exact ⟨rfl, rfl⟩

def amongB (s : ByteArray) (L : List Nat) (v : Int) : Bool := L.any fun p => clsB (bt s p) && (bt s (p + 1) == v || bt s (p + 2) == v)
theorem amongB_take {s : ByteArray} {L : List Nat} {v : Int} {k : Nat} (hk : k < L.length) : amongB s (L.take (k + 1)) v = (amongB s (L.take k) v || (clsB (bt s L[k]) && (bt s (L[k] + 1) == v || bt s (L[k] + 2) == v))) := by
  unfold amongB
  rw [List.take_succ_eq_append_getElem hk, List.any_append]
  simp
theorem amongB_of {s : ByteArray} {L : List Nat} {v : Int} {k : Nat} (h : amongB s (L.take k) v = true) : amongB s L v = true := by
  unfold amongB at h ⊢
  rw [← List.take_append_drop k L, List.any_append, h]; rfl

theorem text_at {s : ByteArray} {p n k : Nat} (hn : p + n ≤ s.size) (hk : k < n) : bt (s.extract p (p + n)) k = bt s (p + k) := bt_ex hn (by omega)

set_option maxRecDepth 20000 in
set_option maxHeartbeats 1000000 in
theorem among_any (s : ByteArray) (L : List Nat) (v : Int) (a : Option Addr) (m c B : Nat) (w : World) (_hv : 0 ≤ v ∧ v ≤ 255) (hL : ∀ p ∈ L, cdOk s p = true) (hlen : L.length ≤ 400)
    (h : w.ownsRow B 9 1 (.slice a m c) L.length (cdTexts s L)) :
    Calls Tryz.prog 131 #[.slice a m c, .int .u8 v] w fun e w' => e = .returned (.bool (amongB s L v)) ∧ w = w' := by
  have e1 := own_len h
  subst e1
  have HL := hid hL
  clear hL
  obtain ⟨q, hq⟩ : ∃ q, q = amongB s L v := ⟨_, rfl⟩
  rw [← hq]
  have HQ := hid hq
  clear hq
  go_enter Tryz.func131, Tryz.ntmps131
  go_wp2_with fail
  go_loop [5] (fun t => ∃ k : Nat, k ≤ L.length ∧ t = .int .i64 k ∧ amongB s (L.take k) v = false) (fun t => L.length - (intOf t).toNat)
  case atStart => exact ⟨0, Nat.zero_le _, rfl, rfl⟩
  case round =>
    obtain ⟨k, hk, rfl, hno⟩ := hrel
    have HN := hid hno
    clear hno
    by_cases hlt : k < L.length
    · obtain ⟨g, rfl, _, hgb, hgl, hcell⟩ := own_cell h (by omega)
      have hok := HL.out L[k] (List.getElem_mem hlt)
      obtain ⟨p3, ps, p4⟩ := cd_pos hok
      have hce : w.cell? ⟨g, k, none⟩ = some (.string (s.extract L[k] (L[k] + cdLen s L[k]))) := hcell k _ (by simp [cdTexts, hlt])
      clear hcell
      obtain ⟨u, hu⟩ : ∃ u, u = s.extract L[k] (L[k] + cdLen s L[k]) := ⟨_, rfl⟩
      rw [← hu] at hce
      have husz : u.size = cdLen s L[k] := by rw [hu, size_ex ps]; omega
      have v0 : bt u 0 = bt s L[k] := by rw [hu, text_at ps (by omega)]; rfl
      have v1 : bt u 1 = bt s (L[k] + 1) := by rw [hu, text_at ps (by omega)]
      have v2 : bt u 2 = bt s (L[k] + 2) := by rw [hu, text_at ps (by omega)]
      have u3 : 3 ≤ u.size := by omega
      have u0 : 0 < u.size := by omega
      have u1 : 1 < u.size := by omega
      have u2 : 2 < u.size := by omega
      rw [bt_in u1] at v1
      rw [bt_in u2] at v2
      have HT := hid (amongB_take (s := s) (v := v) hlt)
      rw [HN.out, Bool.false_or, ← v0, ← v1, ← v2] at HT
      have HPT := hid (fun W => pattern_any u W u0)
      clear v0 v1 v2 hu husz hok p3 ps p4
      by_cases hc : clsB (bt u 0) = true
      · rw [hc] at HPT HT
        by_cases h1 : ((u[1]'u1).toNat : Int) = v
        · have HU : Hid (q = true) := hid (by rw [HQ.out]; exact amongB_of (by rw [HT.out]; simp [h1]))
          have q1 : (((u[1]'u1).toNat : Int) == v) = true := by simpa using h1
          clear h1
          go_wp2_with (go_at_call 107; refine (HPT.out _).mono ?_; rintro e w' ⟨rfl, rfl⟩)
          go_ret
          exact ⟨ret_bool HU.out.symm, rfl⟩
        · have q1 : (((u[1]'u1).toNat : Int) == v) = false := by simpa using h1
          by_cases h2 : ((u[2]'u2).toNat : Int) = v
          · have HU : Hid (q = true) := hid (by rw [HQ.out]; exact amongB_of (by rw [HT.out]; simp [h2]))
            have q2 : (((u[2]'u2).toNat : Int) == v) = true := by simpa using h2
            clear h1 h2
            go_wp2_with (go_at_call 107; refine (HPT.out _).mono ?_; rintro e w' ⟨rfl, rfl⟩)
            go_ret
            exact ⟨ret_bool HU.out.symm, rfl⟩
          · have q2 : (((u[2]'u2).toNat : Int) == v) = false := by simpa using h2
            have HT' : Hid (amongB s (L.take (k + 1)) v = false) := hid (by rw [HT.out]; simp [q1, q2])
            clear h1 h2
            go_wp2_with (go_at_call 107; refine (HPT.out _).mono ?_; rintro e w' ⟨rfl, rfl⟩)
            go_round
            case rel => exact ⟨k + 1, by omega, by go_num, HT'.out⟩
            case measure => simp [intOf]; omega
      · have hc' : clsB (bt u 0) = false := by simpa using hc
        rw [hc'] at HPT HT
        have HT' : Hid (amongB s (L.take (k + 1)) v = false) := hid (by rw [HT.out]; simp)
        go_wp2_with (go_at_call 107; refine (HPT.out _).mono ?_; rintro e w' ⟨rfl, rfl⟩)
        go_round
        case rel => exact ⟨k + 1, by omega, by go_num, HT'.out⟩
        case measure => simp [intOf]; omega
    · have HU : Hid (q = false) := hid (by rw [HQ.out]; have := HN.out; rwa [List.take_of_length_le (by omega)] at this)
      go_wp2
      go_ret
      exact ⟨ret_bool HU.out.symm, rfl⟩

def boundAt (s : ByteArray) (L : List Nat) (c : Int) : Bool := !(letB c) || amongB s L c
def boundT (s : ByteArray) (L : List Nat) (p n : Nat) : Bool := (List.range n).all fun q => boundAt s L (bt s (p + q))
theorem boundT_succ (s : ByteArray) (L : List Nat) (p n : Nat) : boundT s L p (n + 1) = (boundT s L p n && boundAt s L (bt s (p + n))) := by
  unfold boundT; rw [List.range_succ, List.all_append]; simp
theorem boundT_false {s : ByteArray} {L : List Nat} {p n m : Nat} (h : boundT s L p n = false) (hm : n ≤ m) : boundT s L p m = false := by
  induction m with
  | zero => rw [show n = 0 by omega] at h; exact h
  | succ m ih =>
    by_cases e : n = m + 1
    · rw [← e]; exact h
    · rw [boundT_succ, ih (by omega)]; rfl

set_option maxRecDepth 20000 in
set_option maxHeartbeats 1000000 in
theorem bound_any (s : ByteArray) (L : List Nat) (p n : Nat) (a : Option Addr) (m c B : Nat) (w : World) (hp : p + n ≤ s.size) (hs : s.size ≤ 400) (hL : ∀ p ∈ L, cdOk s p = true) (hlen : L.length ≤ 400)
    (h : w.ownsRow B 9 1 (.slice a m c) L.length (cdTexts s L)) :
    Calls Tryz.prog 108 #[.slice a m c, .string (s.extract p (p + n))] w fun e w' => e = .returned (.bool (boundT s L p n)) ∧ w = w' := by
  have HA := hid (fun v hv => among_any s L v a m c B w hv hL hlen h)
  clear hL h hlen
  obtain ⟨q, hq⟩ : ∃ q, q = boundT s L p n := ⟨_, rfl⟩
  rw [← hq]
  have HQ := hid hq
  clear hq
  obtain ⟨u, hu⟩ : ∃ u, u = s.extract p (p + n) := ⟨_, rfl⟩
  rw [← hu]
  have husz : u.size = n := by rw [hu, size_ex hp]; omega
  have HB : Hid (∀ k (hk : k < u.size), ((u[k]'hk).toNat : Int) = bt s (p + k)) := hid (by
    intro k hk; rw [← bt_in hk, hu, text_at hp (by omega)])
  have hun : n ≤ 400 := by omega
  clear hu
  subst husz
  go_enter Tryz.func108, Tryz.ntmps108
  go_wp2_with fail
  go_loop [5] (fun t => ∃ k : Nat, k ≤ u.size ∧ t = .int .i64 k ∧ boundT s L p k = true) (fun t => u.size - (intOf t).toNat)
  case atStart => exact ⟨0, Nat.zero_le _, rfl, rfl⟩
  case round =>
    obtain ⟨k, hk, rfl, hno⟩ := hrel
    have HN := hid hno
    clear hno
    by_cases hlt : k < u.size
    · have hb := bt_bd s (p + k)
      rw [← HB.out k hlt] at hb
      have HT := hid (boundT_succ s L p k)
      rw [HN.out, Bool.true_and, ← HB.out k hlt, boundAt] at HT
      have HLT := hid (fun W => letter_any ((u[k]'hlt).toNat : Int) W hb.1 hb.2)
      have HAM := hid (HA.out ((u[k]'hlt).toNat : Int) hb)
      by_cases hl : letB ((u[k]'hlt).toNat : Int) = true
      · rw [hl] at HLT HT
        by_cases ha : amongB s L ((u[k]'hlt).toNat : Int) = true
        · rw [ha] at HAM HT
          clear hl ha
          go_wp2_with (first | (go_at_call 130; refine (HLT.out _).mono ?_; rintro e w' ⟨rfl, rfl⟩) | (go_at_call 131; refine HAM.out.mono ?_; rintro e w' ⟨rfl, rfl⟩))
          go_round
          case rel => exact ⟨k + 1, by omega, by go_num, by rw [HT.out]; rfl⟩
          case measure => simp [intOf]; omega
        · have ha' : amongB s L ((u[k]'hlt).toNat : Int) = false := by simpa using ha
          rw [ha'] at HAM HT
          have HU : Hid (q = false) := hid (by rw [HQ.out]; exact boundT_false (n := k + 1) (by rw [HT.out]; rfl) (by omega))
          clear hl ha ha'
          go_wp2_with (first | (go_at_call 130; refine (HLT.out _).mono ?_; rintro e w' ⟨rfl, rfl⟩) | (go_at_call 131; refine HAM.out.mono ?_; rintro e w' ⟨rfl, rfl⟩))
          go_ret
          exact ⟨ret_bool HU.out.symm, rfl⟩
      · have hl' : letB ((u[k]'hlt).toNat : Int) = false := by simpa using hl
        rw [hl'] at HLT HT
        clear hl hl'
        go_wp2_with (first | (go_at_call 130; refine (HLT.out _).mono ?_; rintro e w' ⟨rfl, rfl⟩) | (go_at_call 131; refine HAM.out.mono ?_; rintro e w' ⟨rfl, rfl⟩))
        go_round
        case rel => exact ⟨k + 1, by omega, by go_num, by rw [HT.out]; rfl⟩
        case measure => simp [intOf]; omega
    · have HU : Hid (q = true) := hid (by rw [HQ.out, ← HN.out, show k = u.size by omega])
      go_wp2
      go_ret
      exact ⟨ret_bool HU.out.symm, rfl⟩

/-- How many patterns, by the first byte. -/
def patCountR (s : ByteArray) (L : List Nat) : Nat := (L.filter fun p => clsB (bt s p)).length
theorem patCountR_snoc (s : ByteArray) (L : List Nat) (k : Nat) (hk : k < L.length) : patCountR s (L.take (k + 1)) = patCountR s (L.take k) + if clsB (bt s L[k]) = true then 1 else 0 := by
  rw [List.take_succ_eq_append_getElem hk]
  unfold patCountR
  rw [List.filter_append, List.length_append]
  by_cases h : clsB (bt s L[k]) = true <;> simp [h]
theorem patCountR_le (s : ByteArray) (L : List Nat) : patCountR s L ≤ L.length := List.length_filter_le _ _

set_option maxRecDepth 20000 in
set_option maxHeartbeats 1000000 in
theorem patterns_any (s : ByteArray) (L : List Nat) (x : Int) (a a2 : Option Addr) (m c m2 c2 B : Nat) (w : World) (hL : ∀ p ∈ L, cdOk s p = true) (hlen : L.length ≤ 400)
    (h : w.ownsRow B 9 1 (.slice a m c) L.length (cdTexts s L)) :
    Calls Tryz.prog 78 #[.agg #[.int .i64 x, .slice a m c, .slice a2 m2 c2]] w fun e w' => e = .returned (.int .i64 (patCountR s L : Nat)) ∧ w.grownBy w' none := by
  have e1 := own_len h
  subst e1
  have HL := hid hL
  clear hL
  go_enter Tryz.func78, Tryz.ntmps78
  go_wp2_with fail
  have h0 := h.alloc (.cells #[.int .i64 x, .slice a L.length c, .slice a2 m2 c2] 155)
  go_loop [3, 4] (fun n t => ∃ k : Nat, k ≤ L.length ∧ t = .int .i64 k ∧ n = .int .i64 (patCountR s (L.take k) : Nat)) (fun _ t => L.length - (intOf t).toNat)
  case atStart => exact ⟨0, Nat.zero_le _, rfl, rfl⟩
  case round =>
    obtain ⟨k, hk, rfl, rfl⟩ := hrel
    by_cases hlt : k < L.length
    · obtain ⟨g, rfl, _, hgb, hgl, hcell⟩ := own_cell h (by omega)
      have hok := HL.out L[k] (List.getElem_mem hlt)
      obtain ⟨p3, ps, p4⟩ := cd_pos hok
      have hce : w.cell? ⟨g, k, none⟩ = some (.string (s.extract L[k] (L[k] + cdLen s L[k]))) := hcell k _ (by simp [cdTexts, hlt])
      clear hcell
      obtain ⟨u, hu⟩ : ∃ u, u = s.extract L[k] (L[k] + cdLen s L[k]) := ⟨_, rfl⟩
      rw [← hu] at hce
      have husz : u.size = cdLen s L[k] := by rw [hu, size_ex ps]; omega
      have v0 : bt u 0 = bt s L[k] := by rw [hu, text_at ps (by omega)]; rfl
      have u0 : 0 < u.size := by omega
      have HPT := hid (fun W => pattern_any u W u0)
      have HS := hid (patCountR_snoc s L k hlt)
      rw [← v0] at HS
      have hpc := patCountR_le s (L.take k)
      have hpl : (L.take k).length ≤ L.length := by simp; omega
      clear v0 hu husz hok p3 ps p4
      by_cases hc : clsB (bt u 0) = true
      · rw [hc] at HPT
        rw [if_pos hc] at HS
        go_wp2_with (go_at_call 107; refine (HPT.out _).mono ?_; rintro e w' ⟨rfl, rfl⟩)
        go_round
        case rel => exact ⟨k + 1, by omega, by go_num, by rw [HS.out]; go_num⟩
        case measure => simp [intOf]; omega
      · have hc' : clsB (bt u 0) = false := by simpa using hc
        rw [hc'] at HPT
        rw [if_neg hc] at HS
        go_wp2_with (go_at_call 107; refine (HPT.out _).mono ?_; rintro e w' ⟨rfl, rfl⟩)
        go_round
        case rel => exact ⟨k + 1, by omega, by go_num, by rw [HS.out]; go_num⟩
        case measure => simp [intOf]; omega
    · go_wp2
      go_ret
      have e : L.take k = L := List.take_of_length_le (by omega)
      rw [e]
      exact ⟨rfl, grown_alloc (grown_refl _ _) _⟩

end Go.Proofs.YthlhbjnkohinmaaGreat
