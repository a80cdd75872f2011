/- The statements' world: a step that commits. -/
import Derived.Test.YthlhbjnkohinmaaGreatLawS4
import Derived.Test.YthlhbjnkohinmaaGreatPair5
namespace Go.Proofs.YthlhbjnkohinmaaGreat
open Go.RowKit

set_option maxRecDepth 20000 in
set_option maxHeartbeats 2000000 in
theorem step_seven (bw i : Nat) (Ps : List (PEng × Eng)) (f : List Nat) (a b c : Int) (s : ByteArray) (w : World) (hI : WorldA bw Ps w f) (hn : f.Nodup) (hg : ∀ q ∈ Ps, Good i q) (hi : i ≤ 4000000000000) (hl : (Ps.length + 1) * 8 ≤ 140737488355328) (ha : -9223372036854775808 ≤ a) (ha2 : a ≤ 9223372036854775807)
    (hlate : LateIs Ps 7 a false) :
    Calls Tryz.prog 10 #[.pointer (some ⟨bw, 0, none⟩), stepV 7 a b c s] w fun e w' => e = .returned (.bool true) ∧ WTo bw i Ps.length f w w' := by
  by_cases hm : Ps = []
  · have HS : Hid (∀ w', Fr [] w w' → WTo bw i Ps.length f w w') := hid (fun w' hw => WTo.same hI hn hg hw)
    obtain ⟨v, ps, f2, f3, h1, h2, h3, rfl⟩ := hI
    obtain ⟨av, mv, cv, rfl⟩ := own_slice h2.1
    have em := own_len h2.1
    have c0 := cell_of_one h1
    have hlb := lt_of_block h1
    have hzz : bw ≠ w.heap.size := by omega
    subst em
    have hl0 : Ps.length = 0 := by rw [hm]; rfl
    rw [hl0] at c0
    clear h1 h2 h3 hn hg hm hl0 hlate
    go_enter Tryz.func10, Tryz.ntmps10
    go_wp2
    go_ret
    exact ⟨rfl, HS.out _ (fr_alloc w _)⟩
  · have hpos : 0 < Ps.length := List.length_pos_iff.mpr hm
    have hr := pickN_lt a hpos
    have hkept : Ps[pickN a Ps.length].2.kept.length + 60 ≤ 999 := by
      have := hlate rfl hr
      have h2 := of_decide_eq_false this.symm
      omega
    obtain ⟨v, ps, h1, h2, g, x, y, f1, f2, hpr, hst, hgo⟩ := WorldA.at hI hn hg hr hi
    obtain ⟨av, mv, cv', rfl⟩ := own_slice h2
    have em := own_len h2
    subst em
    have c0 := cell_of_one h1
    have hlb := lt_of_block h1
    have hzz : bw ≠ w.heap.size := by omega
    have hm' : ((Ps.length : Int) == 0) = false := by simp; exact hm
    have HPK := hid (fun W => pick_any a Ps.length W ha ha2 hpos (by omega))
    rw [← pickN_eq a hpos] at HPK
    obtain ⟨gr, rfl, _, hgb, hgl, hcell⟩ := own_cell h2 hpos
    have d0 := hcell _ _ hpr
    have z1 : gr ≠ w.heap.size := by omega
    have HPS := hid (fun W (hW : Fr [] w W) => pair_commit g x y _ _ f1 f2 i a b c s W (hst.grown hW) hkept)
    have HGO := hid hgo
    obtain ⟨pn, hpn⟩ : ∃ pn, pn = pickN a Ps.length := ⟨_, rfl⟩
    rw [← hpn] at d0 HPK hr
    clear hcell h1 h2 hst hgo hkept hpn hm hI hg hn hpr hlate
    go_enter Tryz.func10, Tryz.ntmps10
    go_wp2_with fail
    go_quiet ((go_at_call 13; exact Calls.quiet_of_same (HPK.out _)))
    go_wp2_with fail
    go_at_call 15
    refine (HPS.out _ ((fr_alloc w _).drewN _)).mono ?_
    rintro e w1 ⟨rfl, hp⟩
    have HP := hid hp
    clear hp
    go_wp2
    go_ret
    exact ⟨rfl, HGO.out _ _ ((fr_alloc w _).drewN _) HP.out⟩

theorem stepOk_seven : StepOk 7 := by
  intro bw i Ps f k a b c s w h1 h2 h3 h4 h5 h6 h7 h8 h9 h10 h11
  by_cases hk : k = 7
  · subst hk
    exact step_seven bw i Ps f a b c s w h1 h2 h3 h4 h5 h6 h7 h11
  · exact step_all bw i Ps f k a b c s w h1 h2 h3 h4 h5 h6 h7 h8 h9 (by omega)

end Go.Proofs.YthlhbjnkohinmaaGreat
