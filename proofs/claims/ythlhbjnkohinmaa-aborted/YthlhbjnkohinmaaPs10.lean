/- The program's engine in memory: Open. -/
import Derived.Test.YthlhbjnkohinmaaPs9
namespace Go.Proofs.Ythlhbjnkohinmaa
open Go.RowKit

set_option maxRecDepth 20000 in
set_option maxHeartbeats 1000000 in
theorem popen_any (x : Nat) (X : PEng) (kv : Nat → Value) (w : World) (h : PAt w x X kv) (ho : 0 ≤ X.opened ∧ X.opened < 9223372036854775807) :
    Calls Try.prog 13 #[.pointer (some ⟨x, 0, none⟩)] w fun e w' => e = .returned (.tuple #[.int .i64 (popenF X).1.1, .int .i64 (popenF X).1.2]) ∧ PNext x (popenF X).2 kv w w' := by
  have HF := hid (numbered_any x X 0 w h.ses)
  have HP := hid h
  unfold popenF
  cases hf : numberedP X 0 with
  | none =>
    rw [hf] at HF
    clear h hf ho
    go_enter Try.func13, Try.ntmps13
    go_wp2_with fail
    go_at_call 30
    refine HF.out.mono ?_
    rintro e w' ⟨rfl, rfl⟩
    simp only [placeV]
    go_wp2
    go_ret2
    exact ⟨rfl, PNext.same HP.out⟩
  | some k =>
    rw [hf] at HF
    have hk : k < 8 := (numberedP_some hf).1
    simp only []
    obtain ⟨cs, hb⟩ := h.block
    have c2 := h.opened
    have z2 := frozen_blk hb 2
    have c3 := h.store.latest
    have hch : Chg w (w.setCell ⟨x, 2, none⟩ (.int .i64 (X.opened + 1))).drew x 2 1 := ((Chg.refl w x 2 1).set (by omega) (by omega) _).drewN 1
    have hP1 : PAt (w.setCell ⟨x, 2, none⟩ (.int .i64 (X.opened + 1))).drew x { X with opened := X.opened + 1 } kv := by
      refine ⟨hch.blk hb, (hch.cell _ (by omega)).trans h.rules, (hch.cell _ (by omega)).trans h.room, ?_, fun j hj => (h.ses j hj).other hch (by omega), ?_⟩
      · show World.cell? (World.setCell _ _ _) _ = _
        rw [World.cell?_setCell_same _ _ _ h.opened]
      · have := h.store.other hch (by omega)
        exact ⟨this.latest, this.last, this.kept⟩
    have hL : (Try.zeroCells84.toList.set 0 (.int .i64 (X.opened + 1))).set 1 (.int .i64 X.latest) = sesCells (.new (X.opened + 1) X.latest) := by rw [zero_ses]; rfl
    have hlay := hP1.lay hk (.new (X.opened + 1) X.latest) (ok_new _ _)
    have hst := run_storeCells_mid (P := Try.prog) (w.setCell ⟨x, 2, none⟩ (.int .i64 (X.opened + 1))).drew x (3 + k * 244) ((Try.zeroCells84.toList.set 0 (.int .i64 (X.opened + 1))).set 1 (.int .i64 X.latest)) (by rw [hL, sesCells_len]; exact hP1.there hk) (by rw [hL]; exact sesCells_one _)
    have c4 : ((w.setCell ⟨x, 2, none⟩ (.int .i64 (X.opened + 1))).drew.setCells x (3 + k * 244) ((Try.zeroCells84.toList.set 0 (.int .i64 (X.opened + 1))).set 1 (.int .i64 X.latest))).cell? ⟨x, 2, none⟩ = some (.int .i64 (X.opened + 1)) := by rw [hL]; exact hlay.1.opened
    rw [← hL] at hlay
    have HL : Hid (PNext x { X with opened := X.opened + 1, ses := upd X.ses k (.new (X.opened + 1) X.latest) } kv w ((w.setCell ⟨x, 2, none⟩ (.int .i64 (X.opened + 1))).drew.setCells x (3 + k * 244) ((Try.zeroCells84.toList.set 0 (.int .i64 (X.opened + 1))).set 1 (.int .i64 X.latest)))) := hid ⟨hlay.1, hch.fr.trans hlay.2⟩
    clear hlay hL hP1 hch
    obtain ⟨op, hop⟩ : ∃ op, op = X.opened := ⟨_, rfl⟩
    obtain ⟨lt, hlt⟩ : ∃ lt, lt = X.latest := ⟨_, rfl⟩
    rw [← hop] at c2 ho hst c4 HL ⊢
    rw [← hlt] at c3 hst c4 HL ⊢
    obtain ⟨ho1, ho2⟩ := ho
    clear h hf hb hop hlt
    go_enter Try.func13, Try.ntmps13
    go_wp2_with fail
    go_at_call 30
    refine HF.out.mono ?_
    rintro e w' ⟨rfl, rfl⟩
    simp only [placeV]
    go_wp2_with fail
    go_region
    all_goals go_wp2_with fail
    all_goals go_ret2
    all_goals exact ⟨rfl, HL.out⟩

end Go.Proofs.Ythlhbjnkohinmaa
