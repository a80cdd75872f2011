/- The book of Serial in memory: what is shown; Open. -/
import Derived.Test.YthlhbjnkohinmaaKeep2
namespace Go.Proofs.Ythlhbjnkohinmaa
open Go.RowKit

def shownAt (v : Nat → Int) (c : Nat) : Option ByteArray := if v c = 0 then none else some (strOfNums [97 + (c : Int) / 10, 48 + (c : Int) % 10, v c])
theorem shownT_eq (v : Nat → Int) (n : Nat) : shownT v n = joined ((List.range n).filterMap (shownAt v)) := rfl
theorem shownT_succ (v : Nat → Int) (n : Nat) : shownT v (n + 1) = match shownAt v n with | some t => shownT v n ++ t | none => shownT v n := by
  rw [shownT_eq, List.range_succ, List.filterMap_append, shownT_eq]
  cases h : shownAt v n with
  | none => simp [h]
  | some t => simp [h, joined_snoc]
theorem shownT_size (v : Nat → Int) : ∀ n, (shownT v n).size ≤ 3 * n
  | 0 => by simp [shownT, joined]
  | n + 1 => by
    have ih := shownT_size v n
    rw [shownT_succ]
    unfold shownAt
    split
    · rename_i t h
      split at h
      · cases h
      · cases h
        rw [ByteArray.size_append]
        have : (strOfNums [97 + (n : Int) / 10, 48 + (n : Int) % 10, v n]).size = 3 := rfl
        omega
    · omega

set_option maxRecDepth 20000 in
set_option maxHeartbeats 2000000 in
theorem shown_any (va : Array Value) (v : Nat → Int) (w : World) (hva : ∀ c, c < 60 → va[c]? = some (.int .u8 (v c))) (hb : ∀ c, c < 60 → ByteOk (v c)) :
    Calls Try.prog 15 #[.agg va] w fun e w' => e = .returned (.string (shownT v 60)) ∧ w.grownBy w' none := by
  have HVA := hid hva
  have HB := hid hb
  clear hva hb
  go_enter Try.func15, Try.ntmps15
  go_wp2_with fail
  go_loopw [3, 4] (fun t i wr => ∃ k : Nat, k ≤ 60 ∧ i = .int .i64 k ∧ t = .string (shownT v k) ∧ w.grownBy wr none ∧ wr.heap[w.heap.size]? = some (.cells va 29 (0, 0))) (fun _ i _ => 60 - (intOf i).toNat)
  case atStart => exact ⟨0, by omega, rfl, rfl, grown_alloc (grown_refl _ _) _, heap_alloc_new w _⟩
  case round =>
    obtain ⟨k, hk, rfl, rfl, hg, hb0⟩ := hrel
    have HG := hid hg
    have HB0 := hid hb0
    by_cases hlt : k < 60
    · have d0 : wr.cell? ⟨w.heap.size, k, none⟩ = some (.int .u8 (v k)) := by rw [cell_of_row _ _ _ _ _ _ hb0]; exact HVA.out k hlt
      have hsz := hg.size
      have hl0 := lt_of_block hb0
      have HJ := hid (shownT_succ v k)
      have hjs := shownT_size v k
      have hby := HB.out k hlt
      obtain ⟨jt, hjt⟩ : ∃ jt, jt = shownT v k := ⟨_, rfl⟩
      have hjz : jt.size ≤ 180 := by rw [hjt]; omega
      rw [← hjt] at HJ ⊢
      obtain ⟨vb, hvb⟩ : ∃ vb, vb = v k := ⟨_, rfl⟩
      have HSA : Hid (shownAt v k = if vb = 0 then none else some (strOfNums [97 + (k : Int) / 10, 48 + (k : Int) % 10, vb])) := hid (by rw [hvb]; rfl)
      rw [← hvb] at d0 hby
      clear hjt hjs hg hb0 hvb
      by_cases h0 : vb = 0
      · have q : (vb != 0) = false := by simpa using h0
        have HN : Hid (shownT v (k + 1) = jt) := hid (by rw [HJ.out, HSA.out, if_pos h0])
        clear h0
        go_wp2_with fail
        go_roundw
        case rel => exact ⟨k + 1, by omega, by go_num, by rw [HN.out], HG.out, HB0.out⟩
        case measure => simp [intOf]; omega
      · have q : (vb != 0) = true := by simpa using h0
        have hv48 : 48 ≤ vb ∧ vb ≤ 57 := by
          rcases hby with h | h
          · exact absurd h h0
          · exact h
        have h1 : (97 : Int) + (k : Int) / 10 ≤ 255 := by omega
        have h2 : (48 : Int) + (k : Int) % 10 ≤ 255 := by omega
        have HN : Hid (shownT v (k + 1) = jt ++ strOfNums [97 + (k : Int) / 10, 48 + (k : Int) % 10, vb]) := hid (by rw [HJ.out, HSA.out, if_neg h0])
        have hcv := run_convert_bytes_arg (P := Try.prog) (wr.alloc (.cells #[.int .u8 (97 + (k : Int) / 10), .int .u8 (48 + (k : Int) % 10), .int .u8 vb] 5)) 99 5 Try.underlying99 Try.underlying5 wr.heap.size 0 3 3 [97 + (k : Int) / 10, 48 + (k : Int) % 10, vb] rfl (by
          intro i hi
          rw [World.cell?_alloc_at _ _ _ _ rfl]
          match i, hi with
          | 0, _ => rfl
          | 1, _ => rfl
          | 2, _ => rfl) 9 Try.underlying9
        have hs3 : (strOfNums [97 + (k : Int) / 10, 48 + (k : Int) % 10, vb]).size = 3 := rfl
        obtain ⟨nt, hnt⟩ : ∃ nt, nt = strOfNums [97 + (k : Int) / 10, 48 + (k : Int) % 10, vb] := ⟨_, rfl⟩
        rw [← hnt] at hcv hs3 HN
        obtain ⟨hv1, hv2⟩ := hv48
        clear h0 hnt hby
        go_wp2_with fail
        go_roundw
        case rel => exact ⟨k + 1, by omega, by go_num, by rw [HN.out], grown_alloc HG.out _, (Below.heap_alloc _ _ _ hl0).trans HB0.out⟩
        case measure => simp [intOf]; omega
    · have hk60 : k = 60 := by omega
      subst hk60
      clear hg hb0
      go_wp2_with fail
      go_ret
      exact ⟨rfl, HG.out⟩

end Go.Proofs.Ythlhbjnkohinmaa
