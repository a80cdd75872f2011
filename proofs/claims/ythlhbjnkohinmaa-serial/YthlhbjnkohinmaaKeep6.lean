/- The book of Serial: Put and Clear. (Written by program: wip/tools/mk_keep6.py.) -/
import Derived.Test.YthlhbjnkohinmaaKeep5
namespace Go.Proofs.Ythlhbjnkohinmaa
open Go.RowKit

/-- One of the book's clients, and the book when it is changed. -/
theorem BkA.client {b i : Nat} {B : Bk} {w : World} {fb : List Nat} (h : BkA b B w fb) (hn : fb.Nodup) (hi : i < B.cls.length) :
    ∃ v ps f3 g, BkAt w b B v ∧ w.ownsRow 0 69 1 v B.cls.length ps ∧ EachA CliA ps B.cls w f3 ∧ ps.getD i (.pointer none) = .pointer (some ⟨g, 0, none⟩) ∧ CliAt w g B.cls[i] ∧ g ∈ fb ∧ g ≠ b ∧
      ∀ (w' : World) (C' : Cli), CliAt w' g C' → Fr [g] w w' → BkA b (B.setC i C') w' fb := by
  obtain ⟨v, ps, f2, f3, h1, h2, h3, rfl⟩ := h
  have hl := EachA.len h3
  obtain ⟨fa, fg, fc, hp, e3, hput⟩ := EachA.focus CliA.framed h3 i (by omega) hi
  obtain ⟨g, hpg, hca, rfl⟩ := hp
  subst e3
  have hdis : ∀ k, k = b ∨ k ∈ f2 ∨ k ∈ fa ∨ k ∈ fc → k ∉ [g] := by
    intro k hk e
    simp only [List.mem_singleton] at e
    subst e
    simp only [List.nodup_cons, List.nodup_append, List.mem_append, List.mem_singleton] at hn
    grind
  refine ⟨v, ps, _, g, h1, h2.1, h3, by simp only [List.getD, List.getElem?_eq_getElem (show i < ps.length by omega), Option.getD_some]; exact hpg, hca, by simp, fun e => hdis b (.inl rfl) (by simp [e]), ?_⟩
  intro w' C' hc' hf
  have hE := hput _ _ _ [g] _ ⟨g, rfl, hc', rfl⟩ hf (fun k hk => hdis k (by simp [hk])) (fun k hk => hdis k (by simp [hk]))
  have hps : ps.set i (.pointer (some ⟨g, 0, none⟩)) = ps := by rw [← hpg]; simp
  rw [hps] at hE
  have hB := h1.fr hf (hdis b (.inl rfl))
  refine ⟨v, ps, f2, _, ⟨hB.block, hB.cls, hB.commits, hB.latest, hB.vals⟩, ?_, hE, rfl⟩
  have := RowA.framed _ _ _ _ _ h2 hf (fun k hk => hdis k (by simp [hk]))
  simpa [Bk.setC] using this

theorem CliAt.put {w : World} {g : Nat} {C : Cli} (h : CliAt w g C) {c : Nat} (hc : c < 60) (v : Int) : CliAt ((w.setCell ⟨g, 2 + c, none⟩ (.bool true)).setCell ⟨g, 62 + c, none⟩ (.int .u8 v)) g (C.put c v) ∧ Fr [g] w ((w.setCell ⟨g, 2 + c, none⟩ (.bool true)).setCell ⟨g, 62 + c, none⟩ (.int .u8 v)) := by
  obtain ⟨cs, hb⟩ := h.block
  have far : ∀ i u, i ≠ 2 + c → i ≠ 62 + c → w.cell? ⟨g, i, none⟩ = some u → ((w.setCell ⟨g, 2 + c, none⟩ (.bool true)).setCell ⟨g, 62 + c, none⟩ (.int .u8 v)).cell? ⟨g, i, none⟩ = some u := fun i u h1 h2 hu => by
    rw [World.cell?_setCell_other _ _ _ _ (by intro e; injection e with e1 e2; omega), World.cell?_setCell_other _ _ _ _ (by intro e; injection e with e1 e2; omega)]
    exact hu
  refine ⟨⟨⟨_, blk_setCell (blk_setCell hb _ _) _ _⟩, far _ _ (by omega) (by omega) h.num, far _ _ (by omega) (by omega) h.begun, fun d hd => ?_, fun d hd => ?_⟩, ((Fr.refl [g] w).set (.inl (by simp)) _).set (.inl (by simp)) _⟩
  · show World.cell? _ _ = some (Value.bool (upd C.wrote c true d))
    by_cases e : d = c
    · subst e
      rw [upd_same, World.cell?_setCell_other _ _ _ _ (by intro e; injection e with e1 e2; omega), World.cell?_setCell_same _ _ _ (h.wrote d hd)]
    · rw [upd_ne _ _ _ e]
      exact far _ _ (by omega) (by omega) (h.wrote d hd)
  · show World.cell? _ _ = some (Value.int .u8 (upd C.vals c v d))
    by_cases e : d = c
    · subst e
      rw [upd_same, World.cell?_setCell_same _ _ _ (u := .int .u8 (C.vals d)) (by rw [World.cell?_setCell_other _ _ _ _ (by intro e; injection e with e1 e2; omega)]; exact h.vals d hd)]
    · rw [upd_ne _ _ _ e]
      exact far _ _ (by omega) (by omega) (h.vals d hd)

theorem cellK_fact {s : ByteArray} (h : factB s = true) : cellK s = (cellN s : Int) ∧ cellN s < 60 ∧ s.size = 3 ∧ 48 ≤ bt s 2 ∧ bt s 2 ≤ 57 := by
  simp only [factB, Bool.and_eq_true, beq_iff_eq] at h
  obtain ⟨⟨⟨h1, h2⟩, h3⟩, h4⟩ := h
  refine ⟨by unfold cellK; rw [if_pos ⟨by omega, h2, h3⟩], ?_, h1, ?_⟩
  · simp only [clsB, digB, decide_eq_true_eq] at h2 h3
    unfold cellN
    omega
  · simpa [digB] using h4
theorem cellK_cell {s : ByteArray} (h : cellB s = true) : cellK s = (cellN s : Int) ∧ cellN s < 60 ∧ s.size = 2 := by
  simp only [cellB, Bool.and_eq_true, beq_iff_eq] at h
  obtain ⟨⟨h1, h2⟩, h3⟩ := h
  refine ⟨by unfold cellK; rw [if_pos ⟨by omega, h2, h3⟩], ?_, h1⟩
  simp only [clsB, digB, decide_eq_true_eq] at h2 h3
  unfold cellN
  omega
/-- What makes a text no fact. -/
theorem fact_bad {s : ByteArray} (h : factB s = false) : cellK s = -1 ∨ (0 ≤ cellK s ∧ cellK s < 60 ∧ s.size ≠ 3) ∨ (0 ≤ cellK s ∧ cellK s < 60 ∧ s.size = 3 ∧ (bt s 2 < 48 ∨ (48 ≤ bt s 2 ∧ 57 < bt s 2))) := by
  by_cases hc : 2 ≤ s.size ∧ clsB (bt s 0) = true ∧ digB (bt s 1) = true
  · right
    have e : cellK s = (cellN s : Int) := by unfold cellK; rw [if_pos hc]
    have hb : cellN s < 60 := by
      obtain ⟨_, h2, h3⟩ := hc
      simp only [clsB, digB, decide_eq_true_eq] at h2 h3
      unfold cellN
      omega
    by_cases h3 : s.size = 3
    · right
      refine ⟨by omega, by omega, h3, ?_⟩
      have : digB (bt s 2) = false := by
        cases hd : digB (bt s 2) with
        | false => rfl
        | true =>
          have : factB s = true := by simp [factB, h3, hc.2.1, hc.2.2, hd]
          rw [this] at h; cases h
      simp only [digB, decide_eq_false_iff_not] at this
      omega
    · exact .inl ⟨by omega, by omega, h3⟩
  · left
    unfold cellK
    rw [if_neg hc]
theorem cell_bad {s : ByteArray} (h : cellB s = false) : cellK s = -1 ∨ (0 ≤ cellK s ∧ cellK s < 60 ∧ s.size ≠ 2) := by
  by_cases hc : 2 ≤ s.size ∧ clsB (bt s 0) = true ∧ digB (bt s 1) = true
  · right
    have e : cellK s = (cellN s : Int) := by unfold cellK; rw [if_pos hc]
    have hb : cellN s < 60 := by
      obtain ⟨_, h2, h3⟩ := hc
      simp only [clsB, digB, decide_eq_true_eq] at h2 h3
      unfold cellN
      omega
    refine ⟨by omega, by omega, fun h2 => ?_⟩
    have : cellB s = true := by simp [cellB, h2, hc.2.1, hc.2.2]
    rw [this] at h; cases h
  · left
    unfold cellK
    rw [if_neg hc]

end Go.Proofs.Ythlhbjnkohinmaa
