/- The document's Rules and Fresh: they answer what the program's reading found. -/
import Derived.Test.YthlhbjnkohinmaaGreatBind
namespace Go.Proofs.YthlhbjnkohinmaaGreat
open Go.RowKit

theorem PartsR_all {w w' : World} {B : Nat} {s : ByteArray} {R : List RuleP} {xs : List Value} (h : PartsR w B s R xs) (hg : w.grownBy w' none) : PartsR w' B s R xs := PartsR_kept hg (fun g hg => by cases hg) R xs h
theorem RefOwn_kept {w w' : World} {B : Nat} {s : ByteArray} {v : Value} {R : List RuleP} (h : RefOwn w B s v R) (hg : w.grownBy w' none) : RefOwn w' B s v R := by
  obtain ⟨xs, h1, h2⟩ := h
  exact ⟨xs, own_kept h1 hg (fun g hg => by cases hg), PartsR_all h2 hg⟩

theorem RuleOk.lens {s : ByteArray} {r : RuleP} (h : RuleOk s r) (hs : s.size ≤ 400) : r.2.1.length ≤ 400 ∧ r.2.2.length ≤ 400 := by
  have h1 := cds_len h.conds rfl
  have h2 := acs_len h.acts rfl
  have h3 := acs_end h.acts rfl
  omega
theorem overB_eq {s : ByteArray} {r : RuleP} (h : RuleOk s r) : overB s r.2.1 r.2.2 = (decide (5 < r.2.1.length) || decide (4 < r.2.2.length) || decide (3 < patCountR s r.2.1)) := by
  rw [overB, patCount_eq (cds_all h.conds rfl)]
theorem unbB_eq {s : ByteArray} {r : RuleP} (h : RuleOk s r) : unbB s r.2.1 r.2.2 = !(wholeB s r.2.1 r.2.2) := unb_whole (cds_all h.conds rfl) (fun p hp => (acs_all h.acts rfl p hp).1)

/-- What Rules leaves. -/
def RRPost (w : World) (s : ByteArray) (x p : Int) (o : Option (List RuleP)) (e : Ending) (w' : World) : Prop :=
  ∃ v, e = .returned (.tuple #[v, .int .i64 x, .int .i64 p]) ∧ (∀ R, o = some R → RefOwn w' w.heap.size s v R) ∧ (o = none → v = .slice none 0 0) ∧ w.grownBy w' none

set_option maxRecDepth 20000 in
set_option maxHeartbeats 4000000 in
/-- A text that has the form, from the loops on: by the first rule that is overfull, and the first that lacks a variable. -/
theorem rrules_form (s : ByteArray) (R : List RuleP) (w : World) (x p : Int) (o : Option (List RuleP)) (hs : s.size ≤ 400) (hR : Rls s 0 R s.size true)
    (o1 : Option Nat) (h1 : FirstBad (ovBad s R) R.length o1) (o2 : Option Nat) (h2 : FirstBad (ubBad s R) R.length o2)
    (e1 : ∀ m, o1 = some m → x = 3 ∧ p = m ∧ o = none) (e2 : ∀ m, o1 = none → o2 = some m → x = 4 ∧ p = m ∧ o = none) (e3 : o1 = none → o2 = none → x = 0 ∧ p = 0 ∧ o = some R) :
    Calls Tryz.prog 39 #[.string s] w (RRPost w s x p o) := by
  have hall := (rls_cut hR rfl).2
  have hlen := Rls_len hR
  have HALL := hid hall
  have HPL := hid (fun W => place_any s W hs)
  have HRD := hid (fun W => rread_any s R W hs hR)
  have HGO := hid ((rls_goes hR).1 rfl)
  have H1 := hid h1
  have H2 := hid h2
  have E1 := hid e1
  have E2 := hid e2
  have E3 := hid e3
  clear hall hR h1 h2 e1 e2 e3
  go_enter Tryz.func39, Tryz.ntmps39
  go_wp2_with fail
  go_at_call 76
  refine (HPL.out _).mono ?_
  rintro e w' ⟨pp, rfl, hp, rfl⟩
  have hpp := (goes_place HGO.out.1 HGO.out.2 hp).1
  subst hpp
  clear hp HPL HGO
  go_wp2_with fail
  go_at_call 77
  refine (HRD.out _).mono ?_
  rintro e w1 ⟨v, rfl, ⟨xs, hown, hpar⟩, hg1⟩
  obtain ⟨a, m, c, rfl⟩ := own_slice hown
  have em := own_len hown
  subst em
  have HP := hid hpar
  clear HRD hpar
  go_wp2_with fail
  go_loopw [7] (fun t wr => ∃ k : Nat, k ≤ R.length ∧ t = .int .i64 k ∧ w1.grownBy wr none ∧ ∀ j, j < k → ¬ ovBad s R j) (fun t _ => R.length - (intOf t).toNat)
  case atStart => exact ⟨0, Nat.zero_le _, rfl, grown_refl _ _, fun j hj => by omega⟩
  case round =>
    obtain ⟨k, hk, rfl, hg, hno⟩ := hrel
    have HN := hid hno
    clear hno
    by_cases hlt : k < R.length
    · obtain ⟨a1, m1, c1, a2, m2, c2, x0, x1, x2, q1, q2⟩ := PartsR_at R xs HP.out k hlt
      obtain ⟨g, rfl, _, hgb, hgl, hcell⟩ := own_cell hown (by omega)
      have d0 := hg.cell (hcell _ _ x0) (by simp)
      have d1 := hg.cell (hcell _ _ x1) (by simp)
      have d2 := hg.cell (hcell _ _ x2) (by simp)
      have hok := HALL.out R[k] (List.getElem_mem hlt)
      have em1 := own_len q1
      have em2 := own_len q2
      subst em1 em2
      have q1' := own_kept q1 hg (fun g hg => by cases hg)
      have HPT := hid (patterns_any s R[k].2.1 (bt s R[k].1 - 48) a1 a2 _ c1 R[k].2.2.length c2 w.heap.size wr (cds_all hok.conds rfl) (hok.lens hs).1 q1')
      have hpc := patCountR_le s R[k].2.1
      have hl1 := (hok.lens hs).1
      have hl2 := (hok.lens hs).2
      have HB : Hid (ovBad s R k ↔ (9 ≤ k ∨ 5 < R[k].2.1.length ∨ 4 < R[k].2.2.length ∨ 3 < patCountR s R[k].2.1)) := hid (by
        constructor
        · rintro ⟨_, h | h⟩
          · exact .inl h
          · rw [overB_eq hok] at h; simp at h; rcases h with (h | h) | h
            · exact .inr (.inl h)
            · exact .inr (.inr (.inl h))
            · exact .inr (.inr (.inr h))
        · intro h
          refine ⟨hlt, ?_⟩
          rcases h with h | h | h | h
          · exact .inl h
          · right; rw [overB_eq hok]; simp [h]
          · right; rw [overB_eq hok]; simp [h]
          · right; rw [overB_eq hok]; simp [h])
      clear hcell x0 x1 x2 q1 q2 q1' hok
      obtain ⟨lc, hlc⟩ : ∃ lc, lc = R[k].2.1.length := ⟨_, rfl⟩
      obtain ⟨la, hla⟩ : ∃ la, la = R[k].2.2.length := ⟨_, rfl⟩
      obtain ⟨np, hnp⟩ : ∃ np, np = patCountR s R[k].2.1 := ⟨_, rfl⟩
      obtain ⟨wt, hwt⟩ : ∃ wt, wt = bt s R[k].1 - 48 := ⟨_, rfl⟩
      rw [← hlc] at HPT HB d1 hpc hl1
      rw [← hla] at HPT HB d2 hl2
      rw [← hnp] at HPT HB hpc
      rw [← hwt] at HPT d0
      clear hlc hla hnp hwt
      by_cases hb : 9 ≤ k ∨ 5 < lc ∨ 4 < la ∨ 3 < np
      · have HO : Hid (x = 3 ∧ p = k ∧ o = none) := hid (by
          have hf : FirstBad (ovBad s R) R.length (some k) := ⟨hlt, HB.out.mpr hb, HN.out⟩
          exact E1.out k (FirstBad.unique H1.out hf))
        obtain ⟨rfl, rfl, rfl⟩ := HO.out
        go_wp2_with fail
        go_at_call 78
        refine HPT.out.mono ?_
        rintro e w2 ⟨rfl, hg2⟩
        have d1' := hg2.cell d1 (by simp)
        have d2' := hg2.cell d2 (by simp)
        by_cases z1 : 5 < lc
        · go_wp2
          go_ret3
          exact ⟨_, rfl, (fun R h => by cases h), (fun _ => rfl), grown_trans hg1 (grown_trans hg hg2)⟩
        · by_cases z2 : 3 < np
          · go_wp2
            go_ret3
            exact ⟨_, rfl, (fun R h => by cases h), (fun _ => rfl), grown_trans hg1 (grown_trans hg hg2)⟩
          · by_cases z3 : 4 < la
            · go_wp2
              go_ret3
              exact ⟨_, rfl, (fun R h => by cases h), (fun _ => rfl), grown_trans hg1 (grown_trans hg hg2)⟩
            · have z4 : 9 ≤ k := by omega
              go_wp2
              go_ret3
              exact ⟨_, rfl, (fun R h => by cases h), (fun _ => rfl), grown_trans hg1 (grown_trans hg hg2)⟩
      · have HNB : Hid (¬ ovBad s R k) := hid (fun h => hb (HB.out.mp h))
        have z1 : ¬ 5 < lc := by omega
        have z2 : ¬ 3 < np := by omega
        have z3 : ¬ 4 < la := by omega
        have z4 : ¬ 9 ≤ k := by omega
        clear hb
        go_wp2_with fail
        go_at_call 78
        refine HPT.out.mono ?_
        rintro e w2 ⟨rfl, hg2⟩
        have d1' := hg2.cell d1 (by simp)
        have d2' := hg2.cell d2 (by simp)
        have hg' := grown_trans hg hg2
        clear hg hg2 d0 d1 d2
        go_wp2
        go_roundw
        case rel =>
          refine ⟨k + 1, by omega, by go_num, hg', ?_⟩
          intro j hj
          by_cases ej : j = k
          · rw [ej]; exact HNB.out
          · exact HN.out j (by omega)
        case measure => simp [intOf]; omega
    · have HO1 : Hid (o1 = none) := hid (FirstBad.unique H1.out (show FirstBad (ovBad s R) R.length none from fun j hj => HN.out j (by omega)))
      clear HN
      go_wp2_with fail
      go_loopw [9] (fun t wr => ∃ k : Nat, k ≤ R.length ∧ t = .int .i64 k ∧ w1.grownBy wr none ∧ ∀ j, j < k → ¬ ubBad s R j) (fun t _ => R.length - (intOf t).toNat)
      case atStart => exact ⟨0, Nat.zero_le _, rfl, hg, fun j hj => by omega⟩
      case round =>
        clear hg
        obtain ⟨k', hk', rfl, hg, hno⟩ := hrel
        have HN := hid hno
        clear hno
        by_cases hlt' : k' < R.length
        · obtain ⟨a1, m1, c1, a2, m2, c2, x0, x1, x2, q1, q2⟩ := PartsR_at R xs HP.out k' hlt'
          obtain ⟨g, rfl, _, hgb, hgl, hcell⟩ := own_cell hown (by omega)
          have d0 := hg.cell (hcell _ _ x0) (by simp)
          have d1 := hg.cell (hcell _ _ x1) (by simp)
          have d2 := hg.cell (hcell _ _ x2) (by simp)
          have hok := HALL.out R[k'] (List.getElem_mem hlt')
          have q1' := own_kept q1 hg (fun g hg => by cases hg)
          have q2' := own_kept q2 hg (fun g hg => by cases hg)
          have HWH := hid (whole_any s R[k'].2.1 R[k'].2.2 (bt s R[k'].1 - 48) a1 a2 m1 c1 m2 c2 w.heap.size wr hs (cds_all hok.conds rfl) (fun p hp => (acs_all hok.acts rfl p hp).2) (hok.lens hs).1 (hok.lens hs).2 q1' q2')
          have HB : Hid (ubBad s R k' ↔ wholeB s R[k'].2.1 R[k'].2.2 = false) := hid (by
            constructor
            · rintro ⟨_, h⟩; rw [unbB_eq hok] at h; simpa using h
            · intro h; exact ⟨hlt', by rw [unbB_eq hok, h]; rfl⟩)
          clear hcell x0 x1 x2 q1 q2 q1' q2' hok
          obtain ⟨bb, hbb⟩ : ∃ bb, bb = wholeB s R[k'].2.1 R[k'].2.2 := ⟨_, rfl⟩
          rw [← hbb] at HWH HB
          clear hbb
          cases bb with
          | false =>
            have HO : Hid (x = 4 ∧ p = k' ∧ o = none) := hid (by
              have hf : FirstBad (ubBad s R) R.length (some k') := ⟨hlt', HB.out.mpr rfl, HN.out⟩
              exact E2.out k' HO1.out (FirstBad.unique H2.out hf))
            obtain ⟨rfl, rfl, rfl⟩ := HO.out
            go_wp2_with fail
            go_at_call 79
            refine HWH.out.mono ?_
            rintro e w2 ⟨rfl, hg2⟩
            go_wp2
            go_ret3
            exact ⟨_, rfl, (fun R h => by cases h), (fun _ => rfl), grown_trans hg1 (grown_trans hg hg2)⟩
          | true =>
            have HNB : Hid (¬ ubBad s R k') := hid (fun h => by have := HB.out.mp h; cases this)
            go_wp2_with fail
            go_at_call 79
            refine HWH.out.mono ?_
            rintro e w2 ⟨rfl, hg2⟩
            have hg' := grown_trans hg hg2
            clear hg hg2 d0 d1 d2
            go_wp2
            go_roundw
            case rel =>
              refine ⟨k' + 1, by omega, by go_num, hg', ?_⟩
              intro j hj
              by_cases ej : j = k'
              · rw [ej]; exact HNB.out
              · exact HN.out j (by omega)
            case measure => simp [intOf]; omega
        · have HO2 : Hid (o2 = none) := hid (FirstBad.unique H2.out (show FirstBad (ubBad s R) R.length none from fun j hj => HN.out j (by omega)))
          obtain ⟨rfl, rfl, rfl⟩ := E3.out HO1.out HO2.out
          go_wp2
          go_ret3
          exact ⟨_, rfl, (fun R' h => by cases h; exact RefOwn_kept ⟨xs, hown, HP.out⟩ hg), (fun h => by cases h), grown_trans hg1 hg⟩

end Go.Proofs.YthlhbjnkohinmaaGreat
