/- The document's reading of a text that has the form: the rules lie in memory as the places say. -/
import Derived.Test.YthlhbjnkohinmaaGreatSegs
namespace Go.Proofs.YthlhbjnkohinmaaGreat
open Go.RowKit

theorem size_ex {s : ByteArray} {a b : Nat} (_hb : b ≤ s.size) : (s.extract a b).size = b - a := by
  rw [ByteArray.size_extract]; omega
theorem bt_ex {s : ByteArray} {a b k : Nat} (hb : b ≤ s.size) (hk : a + k < b) : bt (s.extract a b) k = bt s (a + k) := by
  have h1 : k < (s.extract a b).size := by rw [size_ex hb]; omega
  rw [bt_in h1, bt_in (show a + k < s.size by omega)]
  rw [ByteArray.getElem_extract]
theorem ex_ex {s : ByteArray} {a b c d : Nat} (_hb : b ≤ s.size) (hd : a + d ≤ b) : (s.extract a b).extract c d = s.extract (a + c) (a + d) := by
  rw [ByteArray.extract_extract]
  congr 1
  omega
theorem ex_snoc {s : ByteArray} {x y : Nat} (h : bt s y = 59) (hx : x ≤ y) (hy : y < s.size) : s.extract x y ++ ⟨#[59]⟩ = s.extract x (y + 1) := by
  have hb : s[y] = 59 := by
    rw [bt_in hy] at h
    exact UInt8.toNat_inj.mp (by show s[y].toNat = 59; omega)
  apply ByteArray.ext
  apply Array.toList_inj.mp
  rw [ByteArray.data_append, Array.toList_append, Lib.extract_data, Lib.extract_data]
  rw [show y + 1 - x = (y - x) + 1 by omega, List.take_succ_eq_append_getElem (by simp; have : s.data.size = s.size := rfl; omega)]
  congr 1
  simp only [List.getElem_drop, Array.getElem_toList, show x + (y - x) = y by omega]
  show [59] = [s[y]]
  rw [hb]

theorem cutR_range {s : ByteArray} {a b : Int} : ∀ (n f i : Nat), f ≤ i → ∀ p ∈ cutR s a b n f i, f ≤ p.1 ∧ p.1 ≤ p.2 ∧ p.2 < i + n
  | 0, _, _, _, p, hp => by simp [cutR] at hp
  | n + 1, f, i, hf, p, hp => by
    rw [cutR] at hp
    split at hp
    · rcases List.mem_cons.mp hp with rfl | hp
      · exact ⟨Nat.le_refl _, hf, by simp⟩
      · have := cutR_range n (i + 1) (i + 1) (Nat.le_refl _) p hp
        omega
    · have := cutR_range n f (i + 1) (by omega) p hp
      omega
theorem cutR_shift {s : ByteArray} {a b : Int} {c d : Nat} (hd : d ≤ s.size) : ∀ (n f i : Nat), c + i + n ≤ d → cutR (s.extract c d) a b n f i = (cutR s a b n (c + f) (c + i)).map fun p => (p.1 - c, p.2 - c)
  | 0, _, _, _ => rfl
  | n + 1, f, i, h => by
    rw [cutR, cutR, bt_ex hd (by omega)]
    split
    · rw [cutR_shift hd n (i + 1) (i + 1) (by omega)]
      simp only [List.map_cons]
      rw [show c + f - c = f by omega, show c + i - c = i by omega, show c + (i + 1) = c + i + 1 by omega]
    · rw [cutR_shift hd n f (i + 1) (by omega), show c + (i + 1) = c + i + 1 by omega]
theorem strs_shift {s : ByteArray} {a b : Int} {c d : Nat} (hd : d ≤ s.size) (hc : c ≤ d) : strs (s.extract c d) (cutR (s.extract c d) a b (s.extract c d).size 0 0) = strs s (cutR s a b (d - c) c c) := by
  rw [size_ex hd, cutR_shift hd _ _ _ (by omega)]
  unfold strs
  rw [List.map_map]
  apply List.map_congr_left
  intro p hp
  have := cutR_range _ _ _ (Nat.le_refl _) p hp
  simp only [Function.comp]
  rw [ex_ex hd (by omega), show c + (p.1 - c) = p.1 by omega, show c + (p.2 - c) = p.2 by omega]
theorem len_shift {s : ByteArray} {a b : Int} {c d : Nat} (hd : d ≤ s.size) (hc : c ≤ d) : (cutR (s.extract c d) a b (s.extract c d).size 0 0).length = (cutR s a b (d - c) c c).length := by
  rw [size_ex hd, cutR_shift hd _ _ _ (by omega), List.length_map]
  simp

/-- The texts of conditions and of actions. -/
def cdTexts (s : ByteArray) (L : List Nat) : List Value := L.map fun p => .string (s.extract p (p + cdLen s p))
def acTexts (s : ByteArray) (L : List Nat) : List Value := L.map fun p => .string (s.extract p (p + acLen s p))

theorem strs_cd (s : ByteArray) (L : List Nat) : strs s (L.map fun p => (p, p + cdLen s p)) = cdTexts s L := by unfold strs cdTexts; rw [List.map_map]; rfl
theorem strs_ac (s : ByteArray) (L : List Nat) : strs s (L.map fun p => (p, p + acLen s p)) = acTexts s L := by unfold strs acTexts; rw [List.map_map]; rfl

/-- The cells of the document's rules. -/
def PartsR (w : World) (B : Nat) (s : ByteArray) : List RuleP → List Value → Prop
  | [], xs => xs = []
  | r :: R, xs => ∃ a1 m1 c1 a2 m2 c2 ys, xs = .int .i64 (bt s r.1 - 48) :: .slice a1 m1 c1 :: .slice a2 m2 c2 :: ys ∧
      w.ownsRow B 9 1 (.slice a1 m1 c1) r.2.1.length (cdTexts s r.2.1) ∧ w.ownsRow B 9 1 (.slice a2 m2 c2) r.2.2.length (acTexts s r.2.2) ∧ PartsR w B s R ys
theorem PartsR_snoc {w : World} {B : Nat} {s : ByteArray} {i : Nat} {L K : List Nat} {a1 : Option Addr} {m1 c1 : Nat} {a2 : Option Addr} {m2 c2 : Nat}
    (h1 : w.ownsRow B 9 1 (.slice a1 m1 c1) L.length (cdTexts s L)) (h2 : w.ownsRow B 9 1 (.slice a2 m2 c2) K.length (acTexts s K)) :
    ∀ (R : List RuleP) (xs : List Value), PartsR w B s R xs → PartsR w B s (R ++ [(i, L, K)]) (xs ++ [.int .i64 (bt s i - 48), .slice a1 m1 c1, .slice a2 m2 c2])
  | [], xs, h => by
    have h : xs = [] := h
    subst h
    exact ⟨a1, m1, c1, a2, m2, c2, [], rfl, h1, h2, rfl⟩
  | r :: R, xs, h => by
    obtain ⟨b1, n1, d1, b2, n2, d2, ys, rfl, k1, k2, k3⟩ := h
    exact ⟨b1, n1, d1, b2, n2, d2, ys ++ _, rfl, k1, k2, PartsR_snoc h1 h2 R ys k3⟩
theorem PartsR_kept {w w' : World} {B : Nat} {s : ByteArray} {row : Option Nat} (hg : w.grownBy w' row)
    (hrow : ∀ g, row = some g → ∃ cs t, w.heap[g]? = some (.cells cs t (0, 0)) ∧ 9 ≠ t) : ∀ (R : List RuleP) (xs : List Value), PartsR w B s R xs → PartsR w' B s R xs
  | [], _, h => h
  | r :: R, xs, h => by
    obtain ⟨b1, n1, d1, b2, n2, d2, ys, rfl, k1, k2, k3⟩ := h
    exact ⟨b1, n1, d1, b2, n2, d2, ys, rfl, own_kept k1 hg hrow, own_kept k2 hg hrow, PartsR_kept hg hrow R ys k3⟩
theorem PartsR_at {w : World} {B : Nat} {s : ByteArray} : ∀ (R : List RuleP) (xs : List Value), PartsR w B s R xs → ∀ (k : Nat) (hk : k < R.length), ∃ a1 m1 c1 a2 m2 c2, xs[k * 3]? = some (.int .i64 (bt s R[k].1 - 48)) ∧ xs[k * 3 + 1]? = some (.slice a1 m1 c1) ∧ xs[k * 3 + 2]? = some (.slice a2 m2 c2) ∧
    w.ownsRow B 9 1 (.slice a1 m1 c1) R[k].2.1.length (cdTexts s R[k].2.1) ∧ w.ownsRow B 9 1 (.slice a2 m2 c2) R[k].2.2.length (acTexts s R[k].2.2)
  | r :: R, xs, h, 0, _ => by
    obtain ⟨b1, n1, d1, b2, n2, d2, ys, rfl, k1, k2, k3⟩ := h
    exact ⟨b1, n1, d1, b2, n2, d2, rfl, rfl, rfl, k1, k2⟩
  | r :: R, xs, h, k + 1, hk => by
    obtain ⟨b1, n1, d1, b2, n2, d2, ys, rfl, k1, k2, k3⟩ := h
    obtain ⟨a1, m1, c1, a2, m2, c2, e1, e2, e3, e4, e5⟩ := PartsR_at R ys k3 k (by simpa using hk)
    have f1 : (k + 1) * 3 = k * 3 + 1 + 1 + 1 := by omega
    rw [f1]
    exact ⟨a1, m1, c1, a2, m2, c2, by simpa using e1, by simpa using e2, by simpa using e3, by simpa using e4, by simpa using e5⟩
theorem own_rowne {w : World} {base : Nat} {e t : TypeId} {size : Nat} {v : Value} {n : Nat} {xs : List Value} (h : w.ownsRow base e size v n xs) (ht : t ≠ e) : ∀ g, v.ownBlock = some g → ∃ cs t', w.heap[g]? = some (.cells cs t' (0, 0)) ∧ t ≠ t' := by
  intro g hg
  obtain ⟨cs, hcs⟩ := own_row_ty h g hg
  exact ⟨cs, _, hcs, ht⟩
def RefOwn (w : World) (B : Nat) (s : ByteArray) (v : Value) (R : List RuleP) : Prop := ∃ xs, w.ownsRow B 155 3 v R.length xs ∧ PartsR w B s R xs

theorem Tryz.info155 : (Tryz.prog.info? 155).map (fun i => (i.zero, i.size, i.bytes)) = some (some (.agg #[.int .i64 0, .slice none 0 0, .slice none 0 0]), 3, 56) := by kernel_rfl

set_option maxRecDepth 20000 in
set_option maxHeartbeats 2000000 in
theorem rread_any (s : ByteArray) (R : List RuleP) (w : World) (hs : s.size ≤ 400) (hR : Rls s 0 R s.size true) :
    Calls Tryz.prog 77 #[.string s] w fun e w' => ∃ v, e = .returned v ∧ RefOwn w' w.heap.size s v R ∧ w.grownBy w' none := by
  obtain ⟨hcut, hall⟩ := rls_cut hR rfl
  have hlen := Rls_len hR
  rw [Nat.sub_zero] at hcut
  have HALL := hid hall
  obtain ⟨i0, hi0, hz0, hz1, hz2⟩ := info_parts Tryz.info155
  have HC := hid (cut_any s 59 59 w (by omega) (by omega) (by omega))
  rw [hcut] at HC
  clear hcut hall hR
  go_enter Tryz.func77, Tryz.ntmps77
  go_wp2_with fail
  go_at_call 106
  refine HC.out.mono ?_
  rintro e w0 ⟨v0, rfl, hown0, hg0⟩
  rw [List.length_map] at hown0
  obtain ⟨a0, m0, k0, rfl⟩ := own_slice hown0
  have e0 := own_len hown0
  subst e0
  clear HC
  go_wp2_with fail
  go_loopw [3, 5] (fun v t wr => ∃ (k : Nat) (xs : List Value), k ≤ R.length ∧ t = .int .i64 k ∧ wr.ownsRow w.heap.size 155 3 v (R.take k).length xs ∧ PartsR wr w.heap.size s (R.take k) xs ∧ wr.ownsRow w.heap.size 9 1 (.slice a0 R.length k0) R.length (strs s (R.map fun r => (r.1, acsEnd s r.2.2))) ∧ w.grownBy wr none) (fun _ t _ => R.length - (intOf t).toNat)
  case atStart => exact ⟨0, [], Nat.zero_le _, rfl, World.ownsRow_nil _ _ _ _, rfl, hown0, hg0⟩
  case round =>
    clear hown0 hg0
    obtain ⟨k, xs, hk, rfl, hown, hpar, hown0, hg⟩ := hrel
    have HP := hid hpar
    clear hpar
    by_cases hlt : k < R.length
    · have hok := HALL.out R[k] (List.getElem_mem hlt)
      obtain ⟨g, rfl, _, hgb, hgl, hcell⟩ := own_cell hown0 (by omega)
      have hce : wr.cell? ⟨g, k, none⟩ = some (.string (s.extract R[k].1 (acsEnd s R[k].2.2))) := hcell k _ (by simp [strs, hlt])
      clear hcell
      obtain ⟨T, hT⟩ : ∃ T, T = R[k] := ⟨_, rfl⟩
      rw [← hT] at hce hok
      have HT := hid hT
      clear hT
      obtain ⟨i, L, K⟩ := T
      have hcE := cds_end hok.conds rfl
      have haE := acs_end hok.acts rfl
      have b1 : i + 2 ≤ cdsEnd s L := hcE.2.2.2.2.2
      have b2 : cdsEnd s L + 1 ≤ acsEnd s K := haE.2.2.2.2.1
      have b3 : acsEnd s K < s.size := haE.2.2.2.2.2
      have HOK := hid hok
      have HCE := hid hcE
      have HAE := hid haE
      clear hok hcE haE
      change wr.cell? ⟨g, k, none⟩ = some (.string (s.extract i (acsEnd s K))) at hce
      obtain ⟨u, hu⟩ : ∃ u, u = s.extract i (acsEnd s K) := ⟨_, rfl⟩
      rw [← hu] at hce
      obtain ⟨N, hN⟩ : ∃ N, N = cdsEnd s L - i := ⟨_, rfl⟩
      have husz : u.size = acsEnd s K - i := by rw [hu, size_ex (by omega)]
      have hub : ∀ n (h : n < u.size), (u[n].toNat : Int) = bt s (i + n) := by
        intro n h
        rw [← bt_in h, hu, bt_ex (by omega) (by omega)]
      have u1 : N + 1 ≤ u.size := by omega
      have u2 : u.size ≤ 400 := by omega
      have u3 : 2 ≤ N := by omega
      have u0 : 0 < u.size := by omega
      have hx1 : u.extract 2 (N + 1) = s.extract (i + 2) (cdsEnd s L + 1) := by rw [hu, ex_ex (by omega) (by omega), show i + (N + 1) = cdsEnd s L + 1 by omega]
      have hx2 : u.extract (N + 1) u.size ++ ⟨#[59]⟩ = s.extract (cdsEnd s L + 1) (acsEnd s K + 1) := by
        rw [husz, hu, ex_ex (by omega) (by omega), show i + (N + 1) = cdsEnd s L + 1 by omega, show i + (acsEnd s K - i) = acsEnd s K by omega, ex_snoc HAE.out.2.2.1 (by omega) (by omega)]
      have HC1 : Hid (∀ W : World, Calls Tryz.prog 106 #[.string (u.extract 2 (N + 1)), .int .u8 44, .int .u8 62] W fun e w' => ∃ v, e = .returned v ∧ w'.ownsRow W.heap.size 9 1 v L.length (cdTexts s L) ∧ W.grownBy w' none) := hid (by
        intro W
        have := cut_any (u.extract 2 (N + 1)) 44 62 W (by rw [hx1, size_ex (by omega)]; omega) (by omega) (by omega)
        rw [hx1, strs_shift (by omega) (by omega), len_shift (by omega) (by omega), cds_cut HOK.out.conds rfl, strs_cd, List.length_map] at this
        rw [hx1]
        exact this)
      have HC2 : Hid (∀ W : World, Calls Tryz.prog 106 #[.string (u.extract (N + 1) u.size ++ ⟨#[59]⟩), .int .u8 44, .int .u8 59] W fun e w' => ∃ v, e = .returned v ∧ w'.ownsRow W.heap.size 9 1 v K.length (acTexts s K) ∧ W.grownBy w' none) := hid (by
        intro W
        have := cut_any (u.extract (N + 1) u.size ++ ⟨#[59]⟩) 44 59 W (by rw [hx2, size_ex (by omega)]; omega) (by omega) (by omega)
        rw [hx2, strs_shift (by omega) (by omega), len_shift (by omega) (by omega), acs_cut HOK.out.acts rfl, strs_ac, List.length_map] at this
        rw [hx2]
        exact this)
      have hd0 : 48 ≤ ((u[0]'u0).toNat : Int) ∧ ((u[0]'u0).toNat : Int) ≤ 57 := by
        rw [hub 0 u0]
        simpa [digB] using HOK.out.dig
      have HW : Hid (((u[0]'u0).toNat : Int) = bt s i) := hid (hub 0 u0)
      have HNO : Hid (∀ n (h : n < N) (hv : n < u.size), (((u[n]'hv).toNat : Int) != 62) = true) := hid (by
        intro n h hv
        have := HOK.out.no62 (i + n) (by omega) (by show i + n < cdsEnd s L; omega)
        rw [hub n hv]
        simpa using this)
      have HYES : Hid (((u[N]'u1).toNat : Int) = 62) := hid (by rw [hub N u1, show i + N = cdsEnd s L by omega]; exact HCE.out.2.2.1)
      have hsz := hg.size
      have HU2 : Hid ((u.extract (N + 1) u.size).size ≤ 400) := hid (by rw [size_ex (Nat.le_refl _)]; omega)
      clear hx1 hx2 hub husz hu hN
      go_wp2_with fail
      go_loop [6] (fun t => ∃ n : Nat, n ≤ N ∧ t = .int .i64 n) (fun t => N - (intOf t).toNat)
      case atStart => exact ⟨0, Nat.zero_le _, rfl⟩
      case round =>
        obtain ⟨n, hn, rfl⟩ := hrel
        by_cases hnl : n < N
        · have hn1 : n < u.size := by omega
          have hq := HNO.out n hnl hn1
          go_wp2
          go_round
          case rel => exact ⟨n + 1, by omega, by go_num⟩
          case measure => simp [intOf]; omega
        · have hnN : n = N := by omega
          subst hnN
          have hq : (((u[n]'u1).toNat : Int) != 62) = false := by simp [HYES.out]
          clear hnl
          go_wp2_with fail
          go_at_call 106
          refine (HC1.out _).mono ?_
          rintro e w1 ⟨v1, rfl, ho1, hg1⟩
          obtain ⟨a1, m1, k1, rfl⟩ := own_slice ho1
          have hce1 := hg1.cell hce (by simp)
          have hU2 := HU2.out
          have hU3 : (⟨#[59]⟩ : ByteArray).size = 1 := rfl
          go_wp2_with fail
          go_at_call 106
          refine (HC2.out _).mono ?_
          rintro e w2 ⟨v2, rfl, ho2, hg2⟩
          obtain ⟨a2, m2, k2, rfl⟩ := own_slice ho2
          have hce2 := hg2.cell hce1 (by simp)
          have hg12 := grown_trans hg1 hg2
          have hsz1 := hg1.size
          have hsz2 := hg2.size
          have hown2 := own_kept hown hg12 (fun g hg => by cases hg)
          clear hU2 hU3
          go_wp2_with (first | (at_builtin; refine wpList_append_own _ rfl (.tmp 43) (.tmp 54) 35 rfl (w.heap.size) 155 i0 (.agg #[.int .i64 0, .slice none 0 0, .slice none 0 0]) 3 56 Tryz.underlying35 hi0 hz0 hz1 hz2 rfl (by decide) _ _ _ rfl (hown2.alloc _) _ 1 1 [.int .i64 (((u[0]'u0).toNat : Int) - 48), .slice a1 m1 k1, .slice a2 m2 k2] rfl rfl ?c1 ?c2 ?c3 ?c4 ?c5 ?_))
          case c1 => intro j u hj; exact news_at1 hj
          case c2 => intro u hu; simp at hu; rcases hu with h | h | h <;> subst h <;> rfl
          case c3 => have : (R.take k).length ≤ R.length := by simp; omega
                     unfold maxLen; omega
          case c4 => have : (R.take k).length ≤ R.length := by simp; omega
                     omega
          case c5 => simp; omega
          · intro v' w3 hown3 hg3 _
            have ht : R.take (k + 1) = R.take k ++ [(i, L, K)] := by rw [List.take_succ_eq_append_getElem hlt, HT.out]
            have o1 := own_mono (own_kept ho1 hg2 (fun g hg => by cases hg)) hsz
            have o2 := own_mono (base' := w.heap.size) ho2 (by omega)
            have HP2 := PartsR_snoc (i := i) o1 o2 (R.take k) xs (PartsR_kept hg12 (fun g hg => by cases hg) _ _ HP.out)
            rw [← ht, ← HW.out] at HP2
            have HP3 : Hid (PartsR w3 w.heap.size s (R.take (k + 1)) _) := hid (PartsR_kept hg3 (own_rowne (hown2.alloc _) (by decide)) _ _ (PartsR_kept (World.grownBy_alloc w2 _ none) (fun g hg => by cases hg) _ _ HP2))
            have hown0' := own_kept ((own_kept hown0 hg12 (fun g hg => by cases hg)).alloc _) hg3 (own_rowne (hown2.alloc _) (by decide))
            have hg3' : w.grownBy w3 none := grown_own2 (grown_alloc (grown_trans hg hg12) _) hg3 (fun g hg => (hown.lt g hg).1)
            have hown3' : w3.ownsRow w.heap.size 155 3 v' (R.take (k + 1)).length (xs ++ [.int .i64 (((u[0]'u0).toNat : Int) - 48), .slice a1 m1 k1, .slice a2 m2 k2]) := by
              have hl : (R.take (k + 1)).length = k + 1 := by simp; omega
              rw [hl]; simpa [Nat.min_eq_left hk] using hown3
            clear hown3 hg3 hown2 hown hg2 hg1 hg12 ho1 ho2 hce hce1 hce2 hown0 hg o1 o2 HP2 ht
            go_wp2
            go_roundw
            case rel => exact ⟨k + 1, _, by omega, by go_num, hown3', HP3.out, hown0', hg3'⟩
            case measure => simp [intOf]; omega
    · go_wp2
      go_ret
      have e : R.take k = R := List.take_of_length_le (by omega)
      rw [e] at hown HP
      exact ⟨_, rfl, ⟨xs, hown, HP.out⟩, hg⟩

end Go.Proofs.YthlhbjnkohinmaaGreat
