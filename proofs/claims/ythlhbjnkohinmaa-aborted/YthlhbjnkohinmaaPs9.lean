/- The program's engine in memory: a session laid whole; Abort. -/
import Derived.Test.YthlhbjnkohinmaaPs8
namespace Go.Proofs.Ythlhbjnkohinmaa
open Go.RowKit

theorem flat4_len {α : Type} {f : Nat → List α} (hf : ∀ c, (f c).length = 4) : ∀ n, ((List.range n).flatMap f).length = n * 4
  | 0 => rfl
  | n + 1 => by rw [List.range_succ, List.flatMap_append, List.length_append, flat4_len hf n]; simp [hf]; omega
theorem flat4_at {α : Type} {f : Nat → List α} (hf : ∀ c, (f c).length = 4) {c j : Nat} (hj : j < 4) : ∀ n, c < n → ((List.range n).flatMap f)[c * 4 + j]? = (f c)[j]?
  | 0, h => by omega
  | n + 1, h => by
    rw [List.range_succ, List.flatMap_append]
    by_cases e : c = n
    · subst e
      rw [List.getElem?_append_right (by rw [flat4_len hf]; omega), flat4_len hf]
      simp
    · rw [List.getElem?_append_left (by rw [flat4_len hf]; omega)]
      exact flat4_at hf hj n (by omega)

/-- The cells of writes, and of a session. -/
def wrsCells (wr : Nat → PW) (tm : Nat → Int) : List Value := (List.range 60).flatMap fun c => [.bool (wMade (wr c)), .bool (wFilled (wr c)), .int .i64 (wVal (wr c)), .int .i64 (tm c)]
def sesCells (S : PSes) : List Value := .int .i64 S.num :: .int .i64 S.snap :: .int .i64 S.made :: (wrsCells S.wr S.tm ++ [mkV S.mks])
theorem wrsCells_len (wr : Nat → PW) (tm : Nat → Int) : (wrsCells wr tm).length = 240 := flat4_len (fun _ => rfl) 60
theorem sesCells_len (S : PSes) : (sesCells S).length = 244 := by simp [sesCells, wrsCells_len]
theorem wrsCells_at (wr : Nat → PW) (tm : Nat → Int) {c : Nat} (hc : c < 60) : (wrsCells wr tm)[c * 4]? = some (.bool (wMade (wr c))) ∧ (wrsCells wr tm)[c * 4 + 1]? = some (.bool (wFilled (wr c))) ∧ (wrsCells wr tm)[c * 4 + 2]? = some (.int .i64 (wVal (wr c))) ∧ (wrsCells wr tm)[c * 4 + 3]? = some (.int .i64 (tm c)) :=
  ⟨flat4_at (j := 0) (fun _ => rfl) (by omega) 60 hc, flat4_at (j := 1) (fun _ => rfl) (by omega) 60 hc, flat4_at (j := 2) (fun _ => rfl) (by omega) 60 hc, flat4_at (j := 3) (fun _ => rfl) (by omega) 60 hc⟩
theorem wrsCells_one (wr : Nat → PW) (tm : Nat → Int) : ∀ v ∈ wrsCells wr tm, v.oneCell' = true := by
  intro v hv
  unfold wrsCells at hv
  rw [List.mem_flatMap] at hv
  obtain ⟨c, _, h⟩ := hv
  simp at h
  rcases h with rfl | rfl | rfl | rfl <;> rfl
theorem sesCells_one (S : PSes) : ∀ v ∈ sesCells S, v.oneCell' = true := by
  intro v hv
  unfold sesCells at hv
  simp only [List.mem_cons, List.mem_append, List.not_mem_nil, or_false] at hv
  rcases hv with rfl | rfl | rfl | hv | rfl
  · rfl
  · rfl
  · rfl
  · exact wrsCells_one _ _ v hv
  · cases S.mks <;> rfl

/-- The writes of a session lie in block b from o on. -/
theorem SesAt.writes {w : World} {b o : Nat} {S : PSes} (h : SesAt w b o S) : w.rangeAt b (o + 3) (wrsCells S.wr S.tm) := by
  intro j v hv
  have hj : j < 240 := by
    have := (List.getElem?_eq_some_iff.1 hv).1
    rw [wrsCells_len] at this
    exact this
  obtain ⟨a0, a1, a2, a3⟩ := wrsCells_at S.wr S.tm (c := j / 4) (by omega)
  have e : j = j / 4 * 4 ∨ j = j / 4 * 4 + 1 ∨ j = j / 4 * 4 + 2 ∨ j = j / 4 * 4 + 3 := by omega
  rcases e with e | e | e | e
  · rw [e, a0] at hv
    rw [e, ← hv]
    exact h.made (j / 4) (by omega)
  · rw [e, a1] at hv
    rw [e, ← hv]
    exact h.filled (j / 4) (by omega)
  · rw [e, a2] at hv
    rw [e, ← hv]
    exact h.val (j / 4) (by omega)
  · rw [e, a3] at hv
    rw [e, ← hv]
    exact h.tm (j / 4) (by omega)
theorem SesAt.range {w : World} {b o : Nat} {S : PSes} (h : SesAt w b o S) : w.rangeAt b o (sesCells S) := by
  intro j v hv
  match j, hv with
  | 0, hv =>
    simp [sesCells] at hv
    rw [← hv]
    exact h.num
  | 1, hv =>
    simp [sesCells] at hv
    rw [← hv]
    exact h.snap
  | 2, hv =>
    simp [sesCells] at hv
    rw [← hv]
    exact h.cnt
  | j + 3, hv =>
    have hv' : (wrsCells S.wr S.tm ++ [mkV S.mks])[j]? = some v := by simpa only [sesCells, List.getElem?_cons_succ] using hv
    rw [show o + (j + 3) = o + 3 + j by omega]
    by_cases hj : j < 240
    · rw [List.getElem?_append_left (by rw [wrsCells_len]; exact hj)] at hv'
      exact h.writes j v hv'
    · rw [List.getElem?_append_right (by rw [wrsCells_len]; omega), wrsCells_len] at hv'
      have e : j = 240 := by
        have := (List.getElem?_eq_some_iff.1 hv').1
        simp at this
        omega
      subst e
      simp at hv'
      rw [← hv']
      exact h.mks
theorem SesAt.of {w : World} {b o : Nat} {S : PSes} (h : w.rangeAt b o (sesCells S)) (hk : S.ok) : SesAt w b o S := by
  have hw : ∀ j v, (wrsCells S.wr S.tm)[j]? = some v → w.cell? ⟨b, o + 3 + j, none⟩ = some v := fun j v hv => by
    have hj : j < (wrsCells S.wr S.tm).length := (List.getElem?_eq_some_iff.1 hv).1
    have := h (j + 3) v (by
      show (wrsCells S.wr S.tm ++ [mkV S.mks])[j]? = some v
      rw [List.getElem?_append_left hj]
      exact hv)
    rw [show o + (j + 3) = o + 3 + j by omega] at this
    exact this
  exact ⟨h 0 _ rfl, h 1 _ rfl, h 2 _ rfl, fun c hc => hw _ _ (wrsCells_at S.wr S.tm hc).1, fun c hc => hw _ _ (wrsCells_at S.wr S.tm hc).2.1, fun c hc => hw _ _ (wrsCells_at S.wr S.tm hc).2.2.1, fun c hc => hw _ _ (wrsCells_at S.wr S.tm hc).2.2.2, h 243 _ (by
    show (wrsCells S.wr S.tm ++ [mkV S.mks])[240]? = some (mkV S.mks)
    rw [List.getElem?_append_right (by rw [wrsCells_len]; omega), wrsCells_len]
    rfl), hk⟩
theorem ok_new (n t : Int) : (PSes.new n t).ok := ⟨Int.le_refl 0, rfl⟩
theorem ok_zero : PSes.zero.ok := ⟨Int.le_refl 0, rfl⟩

theorem Chg.setCells {w : World} {b a n : Nat} : ∀ (vs : List Value) (o : Nat) {w' : World}, a ≤ o → o + vs.length ≤ a + n → Chg w w' b a n → Chg w (w'.setCells b o vs) b a n
  | [], _, _, _, _, h => h
  | v :: vs, o, _, h1, h2, h => Chg.setCells vs (o + 1) (by omega) (by simp at h2; omega) (h.set h1 (by simp at h2; omega) v)

/-- A place of the engine may be written. -/
theorem PAt.there {w : World} {x : Nat} {X : PEng} {kv : Nat → Value} (h : PAt w x X kv) {k : Nat} (hk : k < 8) : w.there x (3 + k * 244) 244 := by
  intro j hj
  obtain ⟨cs, hb⟩ := h.block
  refine ⟨?_, frozen_blk hb _⟩
  exact World.rangeAt.isSome (h.ses k hk).range j (by rw [sesCells_len]; exact hj)
/-- A session is laid into a place. -/
theorem PAt.lay {w : World} {x : Nat} {X : PEng} {kv : Nat → Value} (h : PAt w x X kv) {k : Nat} (hk : k < 8) (S' : PSes) (hk' : S'.ok) : PAt (w.setCells x (3 + k * 244) (sesCells S')) x (X.setSes k S') kv ∧ Fr [x] w (w.setCells x (3 + k * 244) (sesCells S')) := by
  have hc : Chg w (w.setCells x (3 + k * 244) (sesCells S')) x (3 + k * 244) 244 := Chg.setCells _ _ (Nat.le_refl _) (by rw [sesCells_len]; omega) (Chg.refl _ _ _ _)
  exact ⟨h.setSes hk (.of (World.rangeAt_setCells_same _ _ _ _ (by rw [sesCells_len]; exact h.there hk)) hk') hc, hc.fr⟩

theorem zero_ses : Try.zeroCells84.toList = sesCells .zero := by kernel_rfl
theorem info_ses : (Try.prog.info? 84).map (·.size) = some 244 := by kernel_rfl

/-- Cells are stored into the midst of a block. -/
theorem run_storeCells_mid {P : Program} (w : World) (b o : Nat) (cs : List Value) (ht : w.there b o cs.length) (h1 : ∀ v ∈ cs, v.oneCell' = true) : (storeCells ⟨b, o, none⟩ cs 0).run P w = .ok () (w.setCells b o cs) := by
  have := run_storeCells_cells (P := P) b o cs 0 w (fun j hj => by simpa using (ht j hj).1) (fun j hj => by simpa using (ht j hj).2) h1
  simpa using this

set_option maxRecDepth 20000 in
set_option maxHeartbeats 1000000 in
theorem pabort_any (x : Nat) (X : PEng) (kv : Nat → Value) (n : Int) (w : World) (h : PAt w x X kv) :
    Calls Try.prog 23 #[.pointer (some ⟨x, 0, none⟩), .int .i64 n] w fun e w' => e = .returned (.int .i64 (pabortF X n).1) ∧ PNext x (pabortF X n).2 kv w w' := by
  have HF := hid (findp_any x X n w h.ses)
  have HP := hid h
  unfold pabortF
  cases hf : findP X n with
  | none =>
    rw [hf] at HF
    clear h hf
    go_enter Try.func23, Try.ntmps23
    go_wp2_with fail
    go_at_call 31
    refine HF.out.mono ?_
    rintro e w' ⟨rfl, rfl⟩
    simp only [placeV]
    go_wp2
    go_ret
    exact ⟨rfl, PNext.same HP.out⟩
  | some k =>
    rw [hf] at HF
    have hk : k < 8 := by
      unfold findP at hf
      split at hf
      · cases hf
      · exact (numberedP_some hf).1
    simp only []
    have HL := hid (h.lay hk .zero ok_zero)
    have hst := run_storeCells_mid (P := Try.prog) w x (3 + k * 244) Try.zeroCells84.toList (by rw [zero_ses, sesCells_len]; exact h.there hk) (by rw [zero_ses]; exact sesCells_one _)
    rw [← zero_ses] at HL
    clear h hf
    go_enter Try.func23, Try.ntmps23
    go_wp2_with fail
    go_at_call 31
    refine HF.out.mono ?_
    rintro e w' ⟨rfl, rfl⟩
    simp only [placeV]
    go_wp2_with fail
    go_ret
    exact ⟨rfl, HL.out⟩

end Go.Proofs.Ythlhbjnkohinmaa
