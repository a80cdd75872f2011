/- The program's engine in memory: Put, Clear, View. -/
import Derived.Test.YthlhbjnkohinmaaPs6
import Derived.Deep.RegionHeld3
namespace Go.Proofs.Ythlhbjnkohinmaa
open Go.RowKit

/-- The program's engine lies in block x. -/
structure PAt (w : World) (x : Nat) (X : PEng) (kv : Nat → Value) : Prop where
  block : ∃ cs, w.heap[x]? = some (.cells cs 93 (0, 0))
  rules : w.cell? ⟨x, 0, none⟩ = some X.src.1.1
  room : w.cell? ⟨x, 1, none⟩ = some (.int .i64 X.room)
  opened : w.cell? ⟨x, 2, none⟩ = some (.int .i64 X.opened)
  ses : SessAt w x X
  store : StoreAt w x 1955 X kv
theorem PAt.lt {w : World} {x : Nat} {X : PEng} {kv : Nat → Value} (h : PAt w x X kv) : x < w.heap.size := by
  obtain ⟨cs, hb⟩ := h.block
  exact lt_of_block hb
theorem StoreAt.other {w w' : World} {b o a n : Nat} {X : PEng} {kv : Nat → Value} (h : StoreAt w b o X kv) (hc : Chg w w' b a n) (hd : o + 121 ≤ a ∨ a + n ≤ o) : StoreAt w' b o X kv :=
  ⟨(hc.cell _ (by omega)).trans h.latest, fun c hl => (hc.cell _ (by omega)).trans (h.last c hl), fun c hl => (hc.cell _ (by omega)).trans (h.kept c hl)⟩
theorem PAt.setSes {w w' : World} {x : Nat} {X : PEng} {kv : Nat → Value} (h : PAt w x X kv) {k : Nat} (hk : k < 8) {S' : PSes} (hs : SesAt w' x (3 + k * 244) S') (hc : Chg w w' x (3 + k * 244) 244) : PAt w' x (X.setSes k S') kv := by
  obtain ⟨cs, hb⟩ := h.block
  refine ⟨hc.blk hb, (hc.cell _ (by omega)).trans h.rules, (hc.cell _ (by omega)).trans h.room, (hc.cell _ (by omega)).trans h.opened, ?_, ?_⟩
  · intro j hj
    show SesAt w' x (3 + j * 244) (upd X.ses k S' j)
    by_cases e : j = k
    · subst e; rw [upd_same]; exact hs
    · rw [upd_ne _ _ _ e]
      exact (h.ses j hj).other hc (by omega)
  · have := h.store.other hc (by omega)
    exact ⟨this.latest, this.last, this.kept⟩

/-- What a call leaves that changes the engine's own block alone. -/
def PNext (x : Nat) (X' : PEng) (kv : Nat → Value) (w w' : World) : Prop := PAt w' x X' kv ∧ Fr [x] w w'
theorem PNext.same {x : Nat} {X : PEng} {kv : Nat → Value} {w : World} (h : PAt w x X kv) : PNext x X kv w w := ⟨h, Fr.refl _ _⟩

set_option maxRecDepth 20000 in
set_option maxHeartbeats 1000000 in
theorem pput_any (x : Nat) (X : PEng) (kv : Nat → Value) (n : Int) (s : ByteArray) (w : World) (h : PAt w x X kv) (hs63 : s.size < 9223372036854775808) (hm : ∀ k, findP X n = some k → (X.ses k).more) :
    Calls Try.prog 34 #[.pointer (some ⟨x, 0, none⟩), .int .i64 n, .string s] w fun e w' => e = .returned (.int .i64 (pputF X n s).1) ∧ PNext x (pputF X n s).2 kv w w' := by
  have HF := hid (findp_any x X n w h.ses)
  have HR := hid (rdfact_any s w hs63)
  have HP := hid h
  unfold pputF
  cases hf : findP X n with
  | none =>
    rw [hf] at HF
    clear h hf HR hm
    go_enter Try.func34, Try.ntmps34
    go_wp2_with fail
    go_at_call 31
    refine HF.out.mono ?_
    rintro e w' ⟨rfl, rfl⟩
    simp only [placeV]
    go_wp2
    go_ret
    exact ⟨rfl, PNext.same HP.out⟩
  | some k =>
    rw [hf] at HF
    have hk : k < 8 := by
      unfold findP at hf
      split at hf
      · cases hf
      · exact (numberedP_some hf).1
    simp only []
    cases hb : factB s with
    | false =>
      have e1 : rdFact s = .tuple #[.int .i64 0, .int .i64 0, .bool false] := by unfold rdFact; rw [hb]; rfl
      rw [e1] at HR
      clear h hf e1 hb hm
      go_enter Try.func34, Try.ntmps34
      go_wp2_with fail
      go_at_call 31
      refine HF.out.mono ?_
      rintro e w' ⟨rfl, rfl⟩
      simp only [placeV]
      go_wp2_with fail
      go_at_call 48
      refine HR.out.mono ?_
      rintro e w' ⟨rfl, rfl⟩
      go_wp2
      go_ret
      exact ⟨rfl, PNext.same HP.out⟩
    | true =>
      have e1 : rdFact s = .tuple #[.int .i64 (cellN s), .int .i64 (bt s 2 - 48), .bool true] := by unfold rdFact; rw [hb]; rfl
      rw [e1] at HR
      have hcn : cellN s < 60 := by
        simp only [factB, Bool.and_eq_true, clsB, digB, decide_eq_true_eq] at hb
        unfold cellN
        omega
      obtain ⟨cs, hcs⟩ := h.block
      have HSP := hid (sput_any x (3 + k * 244) (cellN s) (bt s 2 - 48) (X.ses k) w hcn hcs (h.ses k hk) (hm k hf))
      clear h hf e1 hb hcs hm
      simp only [if_true]
      obtain ⟨v, hv⟩ : ∃ v, v = bt s 2 - 48 := ⟨_, rfl⟩
      obtain ⟨c, hc⟩ : ∃ c, c = cellN s := ⟨_, rfl⟩
      rw [← hv, ← hc] at HR HSP ⊢
      clear hv hc hcn
      go_enter Try.func34, Try.ntmps34
      go_wp2_with fail
      go_at_call 31
      refine HF.out.mono ?_
      rintro e w' ⟨rfl, rfl⟩
      simp only [placeV]
      go_wp2_with fail
      go_at_call 48
      refine HR.out.mono ?_
      rintro e w' ⟨rfl, rfl⟩
      go_wp2_with fail
      go_at_call 49
      refine HSP.out.mono ?_
      rintro e w1 ⟨rfl, ht⟩
      have HT := hid ht
      clear ht
      go_wp2
      go_ret
      exact ⟨rfl, HP.out.setSes hk HT.out.ses HT.out.chg, HT.out.chg.fr⟩

set_option maxRecDepth 20000 in
set_option maxHeartbeats 1000000 in
theorem pclear_any (x : Nat) (X : PEng) (kv : Nat → Value) (n : Int) (s : ByteArray) (w : World) (h : PAt w x X kv) (hs63 : s.size < 9223372036854775808) (hm : ∀ k, findP X n = some k → (X.ses k).more) :
    Calls Try.prog 35 #[.pointer (some ⟨x, 0, none⟩), .int .i64 n, .string s] w fun e w' => e = .returned (.int .i64 (pclearF X n s).1) ∧ PNext x (pclearF X n s).2 kv w w' := by
  have HF := hid (findp_any x X n w h.ses)
  have HR := hid (rdcell_any s w hs63)
  have HP := hid h
  unfold pclearF
  cases hf : findP X n with
  | none =>
    rw [hf] at HF
    clear h hf HR hm
    go_enter Try.func35, Try.ntmps35
    go_wp2_with fail
    go_at_call 31
    refine HF.out.mono ?_
    rintro e w' ⟨rfl, rfl⟩
    simp only [placeV]
    go_wp2
    go_ret
    exact ⟨rfl, PNext.same HP.out⟩
  | some k =>
    rw [hf] at HF
    have hk : k < 8 := by
      unfold findP at hf
      split at hf
      · cases hf
      · exact (numberedP_some hf).1
    simp only []
    cases hb : cellB s with
    | false =>
      have e1 : rdCell s = .tuple #[.int .i64 0, .bool false] := by unfold rdCell; rw [hb]; rfl
      rw [e1] at HR
      clear h hf e1 hb hm
      go_enter Try.func35, Try.ntmps35
      go_wp2_with fail
      go_at_call 31
      refine HF.out.mono ?_
      rintro e w' ⟨rfl, rfl⟩
      simp only [placeV]
      go_wp2_with fail
      go_at_call 50
      refine HR.out.mono ?_
      rintro e w' ⟨rfl, rfl⟩
      go_wp2
      go_ret
      exact ⟨rfl, PNext.same HP.out⟩
    | true =>
      have e1 : rdCell s = .tuple #[.int .i64 (cellN s), .bool true] := by unfold rdCell; rw [hb]; rfl
      rw [e1] at HR
      have hcn : cellN s < 60 := by
        simp only [cellB, Bool.and_eq_true, clsB, digB, decide_eq_true_eq] at hb
        unfold cellN
        omega
      obtain ⟨cs, hcs⟩ := h.block
      have HSP := hid (sclear_any x (3 + k * 244) (cellN s) (X.ses k) w hcn hcs (h.ses k hk) (hm k hf))
      clear h hf e1 hb hcs hm
      simp only [if_true]
      obtain ⟨c, hc⟩ : ∃ c, c = cellN s := ⟨_, rfl⟩
      rw [← hc] at HR HSP ⊢
      clear hc hcn
      go_enter Try.func35, Try.ntmps35
      go_wp2_with fail
      go_at_call 31
      refine HF.out.mono ?_
      rintro e w' ⟨rfl, rfl⟩
      simp only [placeV]
      go_wp2_with fail
      go_at_call 50
      refine HR.out.mono ?_
      rintro e w' ⟨rfl, rfl⟩
      go_wp2_with fail
      go_at_call 51
      refine HSP.out.mono ?_
      rintro e w1 ⟨rfl, ht⟩
      have HT := hid ht
      clear ht
      go_wp2
      go_ret
      exact ⟨rfl, HP.out.setSes hk HT.out.ses HT.out.chg, HT.out.chg.fr⟩

end Go.Proofs.Ythlhbjnkohinmaa
