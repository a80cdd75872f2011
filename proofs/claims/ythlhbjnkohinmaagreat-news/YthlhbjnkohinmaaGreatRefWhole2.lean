/- The document's check that all variables of a rule are bound. -/
import Derived.Test.YthlhbjnkohinmaaGreatRefWhole
namespace Go.Proofs.YthlhbjnkohinmaaGreat
open Go.RowKit

theorem own_take {w : World} {base : Nat} {e : TypeId} {a : Option Addr} {m c n i : Nat} {xs : List Value} (h : w.ownsRow base e 1 (.slice a m c) n xs) (hi : i ≤ n) : w.ownsRow base e 1 (.slice a i c) i (xs.take i) := by
  obtain ⟨h1, h2⟩ := h
  refine ⟨by simp [h1]; omega, ?_⟩
  rcases h2 with ⟨hv, h0⟩ | ⟨g, cap, cur, hv, hb, hh, hn, hm, hc, ht⟩
  · cases hv
    left; exact ⟨by rw [show i = 0 by omega], by omega⟩
  · cases hv
    right
    refine ⟨g, _, cur, rfl, hb, hh, by omega, hm, hc, ?_⟩
    rw [← ht, List.take_take]
    congr 1
    omega

theorem own_cap {w : World} {base : Nat} {e : TypeId} {size : Nat} {a : Option Addr} {m c n : Nat} {xs : List Value} (h : w.ownsRow base e size (.slice a m c) n xs) : n ≤ c := by
  rcases h.2 with ⟨hv, h0⟩ | ⟨g, cap, cur, hv, hb, hh, hn, _⟩
  · omega
  · cases hv; exact hn
def wholeAt (s : ByteArray) (L : List Nat) (k : Nat) : Bool := clsB (bt s (L.getD k 0)) || boundT s (L.take k) (L.getD k 0) (cdLen s (L.getD k 0))
def wholeN (s : ByteArray) (L : List Nat) (n : Nat) : Bool := (List.range n).all fun k => wholeAt s L k
theorem wholeN_succ (s : ByteArray) (L : List Nat) (n : Nat) : wholeN s L (n + 1) = (wholeN s L n && wholeAt s L n) := by
  unfold wholeN; rw [List.range_succ, List.all_append]; simp
theorem wholeN_false {s : ByteArray} {L : List Nat} {n m : Nat} (h : wholeN s L n = false) (hm : n ≤ m) : wholeN s L m = false := by
  induction m with
  | zero => rw [show n = 0 by omega] at h; exact h
  | succ m ih =>
    by_cases e : n = m + 1
    · rw [← e]; exact h
    · rw [wholeN_succ, ih (by omega)]; rfl
def wholeA (s : ByteArray) (L K : List Nat) : Bool := K.all fun p => boundT s L p (acLen s p)
def wholeB (s : ByteArray) (L K : List Nat) : Bool := wholeN s L L.length && wholeA s L K

set_option maxRecDepth 20000 in
set_option maxHeartbeats 4000000 in
theorem whole_any (s : ByteArray) (L K : List Nat) (x : Int) (a a2 : Option Addr) (m c m2 c2 B : Nat) (w : World) (hs : s.size ≤ 400) (hL : ∀ p ∈ L, cdOk s p = true) (hK : ∀ p ∈ K, p + acLen s p ≤ s.size) (hlen : L.length ≤ 400) (hlenK : K.length ≤ 400)
    (h : w.ownsRow B 9 1 (.slice a m c) L.length (cdTexts s L)) (h2 : w.ownsRow B 9 1 (.slice a2 m2 c2) K.length (acTexts s K)) :
    Calls Tryz.prog 79 #[.agg #[.int .i64 x, .slice a m c, .slice a2 m2 c2]] w fun e w' => e = .returned (.bool (wholeB s L K)) ∧ w.grownBy w' none := by
  have e1 := own_len h
  have e2 := own_len h2
  subst e1 e2
  have HL := hid hL
  have HK := hid hK
  clear hL hK
  obtain ⟨q, hq⟩ : ∃ q, q = wholeB s L K := ⟨_, rfl⟩
  rw [← hq]
  have HQ := hid hq
  clear hq
  have hw0 : ∃ w0, w0 = w.alloc (.cells #[.int .i64 x, .slice a L.length c, .slice a2 K.length c2] 155) := ⟨_, rfl⟩
  obtain ⟨w0, hw0⟩ := hw0
  have h' : w0.ownsRow B 9 1 (.slice a L.length c) L.length (cdTexts s L) := by rw [hw0]; exact h.alloc _
  have h2' : w0.ownsRow B 9 1 (.slice a2 K.length c2) K.length (acTexts s K) := by rw [hw0]; exact h2.alloc _
  have d1 : w0.cell? ⟨w.heap.size, 1, none⟩ = some (.slice a L.length c) := by rw [hw0]; simp [go_sem]
  have d2 : w0.cell? ⟨w.heap.size, 2, none⟩ = some (.slice a2 K.length c2) := by rw [hw0]; simp [go_sem]
  have HG0 : Hid (w.grownBy w0 none) := hid (by rw [hw0]; exact grown_alloc (grown_refl _ _) _)
  have HW0 := hid hw0
  have D1 := hid d1
  have D2 := hid d2
  clear hw0 h h2
  go_enter Tryz.func79, Tryz.ntmps79
  go_wp2_with fail
  rw [← HW0.out]
  clear HW0
  go_loopw [3] (fun t wr => ∃ (k : Nat), k ≤ L.length ∧ t = .int .i64 k ∧ wr.heap = w0.heap ∧ w.grownBy wr none ∧ wholeN s L k = true) (fun t _ => L.length - (intOf t).toNat)
  case atStart => exact ⟨0, Nat.zero_le _, rfl, rfl, HG0.out, rfl⟩
  case round =>
    obtain ⟨k, hk, rfl, hhp, hgr, hno⟩ := hrel
    have HN := hid hno
    have HHP := hid hhp
    have d1 := (cell_heap hhp _).trans d1
    have d2 := (cell_heap hhp _).trans d2
    clear hno hhp
    by_cases hlt : k < L.length
    · obtain ⟨g, rfl, _, hgb, hgl, hcell⟩ := own_cell h' (by omega)
      have hok := HL.out L[k] (List.getElem_mem hlt)
      obtain ⟨p3, ps, p4⟩ := cd_pos hok
      have hce : w0.cell? ⟨g, k, none⟩ = some (.string (s.extract L[k] (L[k] + cdLen s L[k]))) := hcell k _ (by simp [cdTexts, hlt])
      replace hce := (cell_heap HHP.out _).trans hce
      clear hcell
      have hpre := own_take h' (i := k) (by omega)
      rw [show (cdTexts s L).take k = cdTexts s (L.take k) by simp [cdTexts, List.map_take]] at hpre
      have hlk : (L.take k).length = k := by simp; omega
      have HBD : Hid (∀ W : World, W.heap = w0.heap → Calls Tryz.prog 108 #[.slice (some ⟨g, 0, none⟩) k c, .string (s.extract L[k] (L[k] + cdLen s L[k]))] W fun e w' => e = .returned (.bool (boundT s (L.take k) L[k] (cdLen s L[k]))) ∧ w' = W) := hid (fun W hW =>
        (bound_any s (L.take k) L[k] (cdLen s L[k]) (some ⟨g, 0, none⟩) k c B W ps hs (fun p hp => HL.out p (List.mem_of_mem_take hp)) (by omega) (by rw [hlk]; exact own_heap hpre hW)).mono fun _ _ ⟨h1, h2⟩ => ⟨h1, h2.symm⟩)
      have HT := hid (wholeN_succ s L k)
      have hgd : L.getD k 0 = L[k] := by simp [List.getD, hlt]
      rw [HN.out, Bool.true_and, wholeAt, hgd] at HT
      obtain ⟨u, hu⟩ : ∃ u, u = s.extract L[k] (L[k] + cdLen s L[k]) := ⟨_, rfl⟩
      rw [← hu] at hce HBD
      have v0 : bt u 0 = bt s L[k] := by rw [hu, text_at ps (by omega)]; rfl
      have u0 : 0 < u.size := by rw [hu, size_ex ps]; omega
      have HPT := hid (fun W => pattern_any u W u0)
      rw [v0] at HPT
      clear v0 hu hok p3 ps p4 hpre hgd u0 hlk
      obtain ⟨bb, hbb⟩ : ∃ bb, bb = boundT s (L.take k) L[k] (cdLen s L[k]) := ⟨_, rfl⟩
      obtain ⟨cc, hcc⟩ : ∃ cc, cc = clsB (bt s L[k]) := ⟨_, rfl⟩
      rw [← hbb] at HBD HT
      rw [← hcc] at HPT HT
      clear hbb hcc
      go_wp2_with (go_at_call 107; refine (HPT.out _).mono ?_; rintro e w' ⟨rfl, rfl⟩)
      have hcap := own_cap h'
      have hkc : k ≤ c := by omega
      have hki : (k : Int) ≤ c := by omega
      go_quiet ((go_at_call 108; exact Calls.quiet_of_same (HBD.out _ HHP.out)))
      cases cc with
      | true =>
        go_wp2
        go_roundw
        case rel => exact ⟨k + 1, by omega, by go_num, HHP.out, grown_drewN hgr _, by rw [HT.out]; rfl⟩
        case measure => simp [intOf]; omega
      | false =>
        cases bb with
        | true =>
          go_wp2
          go_roundw
          case rel => exact ⟨k + 1, by omega, by go_num, HHP.out, grown_drewN hgr _, by rw [HT.out]; rfl⟩
          case measure => simp [intOf]; omega
        | false =>
          have HU : Hid (q = false) := hid (by rw [HQ.out, wholeB, wholeN_false (n := k + 1) (by rw [HT.out]; rfl) (by omega)]; rfl)
          go_wp2
          go_ret
          exact ⟨ret_bool HU.out.symm, grown_drewN hgr _⟩
    · have HN' : Hid (q = wholeA s L K) := hid (by
        rw [HQ.out, wholeB]
        have := HN.out
        rw [show k = L.length by omega] at this
        rw [this]; rfl)
      clear HN
      go_wp2_with fail
      go_loopw [6] (fun t wr => ∃ (k : Nat), k ≤ K.length ∧ t = .int .i64 k ∧ wr.heap = w0.heap ∧ w.grownBy wr none ∧ wholeA s L (K.take k) = true) (fun t _ => K.length - (intOf t).toNat)
      case atStart => exact ⟨0, Nat.zero_le _, rfl, HHP.out, hgr, rfl⟩
      case round =>
        clear HHP hgr d1 d2
        obtain ⟨k', hk', rfl, hhp, hgr, hno⟩ := hrel
        have HN := hid hno
        have HHP := hid hhp
        have d1 := (cell_heap hhp _).trans D1.out
        have d2 := (cell_heap hhp _).trans D2.out
        clear hno hhp
        by_cases hlt' : k' < K.length
        · obtain ⟨g, rfl, _, hgb, hgl, hcell⟩ := own_cell h2' (by omega)
          have ps := HK.out K[k'] (List.getElem_mem hlt')
          have hce : w0.cell? ⟨g, k', none⟩ = some (.string (s.extract K[k'] (K[k'] + acLen s K[k']))) := hcell k' _ (by simp [acTexts, hlt'])
          replace hce := (cell_heap HHP.out _).trans hce
          clear hcell
          have HBD : Hid (∀ W : World, W.heap = w0.heap → Calls Tryz.prog 108 #[.slice a L.length c, .string (s.extract K[k'] (K[k'] + acLen s K[k']))] W fun e w' => e = .returned (.bool (boundT s L K[k'] (acLen s K[k']))) ∧ w' = W) := hid (fun W hW =>
            (bound_any s L K[k'] (acLen s K[k']) a L.length c B W ps hs HL.out hlen (own_heap h' hW)).mono fun _ _ ⟨h1, h2⟩ => ⟨h1, h2.symm⟩)
          have HT : Hid (wholeA s L (K.take (k' + 1)) = boundT s L K[k'] (acLen s K[k'])) := hid (by
            have := HN.out
            unfold wholeA at this ⊢
            rw [List.take_succ_eq_append_getElem hlt', List.all_append, this]; simp)
          obtain ⟨u, hu⟩ : ∃ u, u = s.extract K[k'] (K[k'] + acLen s K[k']) := ⟨_, rfl⟩
          rw [← hu] at hce HBD
          obtain ⟨bb, hbb⟩ : ∃ bb, bb = boundT s L K[k'] (acLen s K[k']) := ⟨_, rfl⟩
          rw [← hbb] at HBD HT
          clear hu hbb ps
          go_wp2_with fail
          go_quiet ((go_at_call 108; exact Calls.quiet_of_same (HBD.out _ HHP.out)))
          cases bb with
          | true =>
            go_wp2
            go_roundw
            case rel => exact ⟨k' + 1, by omega, by go_num, HHP.out, grown_drewN hgr _, HT.out⟩
            case measure => simp [intOf]; omega
          | false =>
            have HU : Hid (q = false) := hid (by
              rw [HN'.out]
              have := HT.out
              unfold wholeA at this ⊢
              rw [← List.take_append_drop (k' + 1) K, List.all_append, this]; rfl)
            go_wp2
            go_ret
            exact ⟨ret_bool HU.out.symm, grown_drewN hgr _⟩
        · have HU : Hid (q = true) := hid (by
            rw [HN'.out]
            have := HN.out
            rwa [List.take_of_length_le (by omega)] at this)
          go_wp2
          go_ret
          exact ⟨ret_bool HU.out.symm, hgr⟩

end Go.Proofs.YthlhbjnkohinmaaGreat
