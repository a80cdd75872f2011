/- Facts, as the program reads and writes them; what a session sees. -/
import Derived.Test.YthlhbjnkohinmaaPs2
namespace Go.Proofs.Ythlhbjnkohinmaa
open Go.RowKit

theorem bt_two {s : ByteArray} {k : Nat} (hs : 2 ≤ s.size) (hk : k < 2) : bt (s.extract 0 2) k = bt s k := by
  have h1 : (s.extract 0 2).size = 2 := by simp; omega
  unfold bt
  rw [dif_pos (by omega), dif_pos (by omega)]
  congr 1
  congr 1
  simp [ByteArray.getElem_extract]

set_option maxRecDepth 20000 in
set_option maxHeartbeats 1000000 in
theorem rdfact_any (s : ByteArray) (w : World) (_hs63 : s.size < 9223372036854775808) :
    Calls Try.prog 48 #[.string s] w fun e w' => e = .returned (rdFact s) ∧ w' = w := by
  obtain ⟨r, hr⟩ : ∃ r, r = rdFact s := ⟨_, rfl⟩
  rw [← hr]
  by_cases hs3 : s.size = 3
  · have s2 : 2 < s.size := by omega
    have bb2 := bt_bd s 2
    have hz : (s.extract 0 2).size = 2 := by simp; omega
    have hcn : cellN (s.extract 0 2) = cellN s := by unfold cellN; rw [bt_two (by omega) (by omega), bt_two (by omega) (by omega)]
    have hb : factB s = (cellB (s.extract 0 2) && digB (bt s 2)) := by
      simp only [factB, cellB, hs3, hz, bt_two (show 2 ≤ s.size by omega) (show 0 < 2 by omega), bt_two (show 2 ≤ s.size by omega) (show 1 < 2 by omega)]
      simp
    have HC := hid (fun W => rdcell_any (s.extract 0 2) W (by omega))
    cases hc : cellB (s.extract 0 2) with
    | false =>
      have e1 : rdCell (s.extract 0 2) = .tuple #[.int .i64 0, .bool false] := by unfold rdCell; rw [hc]; rfl
      rw [e1] at HC
      have HU : Hid (r = .tuple #[.int .i64 0, .int .i64 0, .bool false]) := hid (by rw [hr]; unfold rdFact; rw [hb, hc]; rfl)
      cases h2 : digB (bt s 2) with
      | false =>
        have HD := hid (fun W => cdigit_no (bt s 2) W bb2.1 bb2.2 h2)
        rw [bt_in s2] at HD
        clear hb hc h2 bb2 hr e1 hcn hz
        go_enter Try.func48, Try.ntmps48
        go_wp2_with fail
        go_at_call 50
        refine (HC.out _).mono ?_
        rintro e w' ⟨rfl, rfl⟩
        go_wp2_with fail
        go_at_call 69
        refine (HD.out _).mono ?_
        rintro e w' ⟨rfl, rfl⟩
        go_wp2
        go_ret3
        exact ⟨by rw [HU.out]; rfl, rfl⟩
      | true =>
        have HD := hid (fun W => cdigit_yes (bt s 2) W bb2.1 bb2.2 h2)
        rw [bt_in s2] at HD
        clear hb hc h2 bb2 hr e1 hcn hz
        go_enter Try.func48, Try.ntmps48
        go_wp2_with fail
        go_at_call 50
        refine (HC.out _).mono ?_
        rintro e w' ⟨rfl, rfl⟩
        go_wp2_with fail
        go_at_call 69
        refine (HD.out _).mono ?_
        rintro e w' ⟨rfl, rfl⟩
        go_wp2
        go_ret3
        exact ⟨by rw [HU.out]; rfl, rfl⟩
    | true =>
      have e1 : rdCell (s.extract 0 2) = .tuple #[.int .i64 (cellN s), .bool true] := by unfold rdCell; rw [hc, hcn]; rfl
      rw [e1] at HC
      cases h2 : digB (bt s 2) with
      | false =>
        have HU : Hid (r = .tuple #[.int .i64 0, .int .i64 0, .bool false]) := hid (by rw [hr]; unfold rdFact; rw [hb, hc, h2]; rfl)
        have HD := hid (fun W => cdigit_no (bt s 2) W bb2.1 bb2.2 h2)
        rw [bt_in s2] at HD
        clear hb hc h2 bb2 hr e1 hcn hz
        go_enter Try.func48, Try.ntmps48
        go_wp2_with fail
        go_at_call 50
        refine (HC.out _).mono ?_
        rintro e w' ⟨rfl, rfl⟩
        go_wp2_with fail
        go_at_call 69
        refine (HD.out _).mono ?_
        rintro e w' ⟨rfl, rfl⟩
        go_wp2
        go_ret3
        exact ⟨by rw [HU.out]; rfl, rfl⟩
      | true =>
        have HU : Hid (r = .tuple #[.int .i64 (cellN s), .int .i64 (bt s 2 - 48), .bool true]) := hid (by rw [hr]; unfold rdFact; rw [hb, hc, h2]; rfl)
        have HD := hid (fun W => cdigit_yes (bt s 2) W bb2.1 bb2.2 h2)
        rw [bt_in s2] at HD HU
        clear hb hc h2 bb2 hr e1 hcn hz
        go_enter Try.func48, Try.ntmps48
        go_wp2_with fail
        go_at_call 50
        refine (HC.out _).mono ?_
        rintro e w' ⟨rfl, rfl⟩
        go_wp2_with fail
        go_at_call 69
        refine (HD.out _).mono ?_
        rintro e w' ⟨rfl, rfl⟩
        go_wp2
        go_ret3
        exact ⟨by rw [HU.out]; rfl, rfl⟩
  · have HU : Hid (r = .tuple #[.int .i64 0, .int .i64 0, .bool false]) := hid (by rw [hr]; simp [rdFact, factB, hs3])
    clear hr
    go_enter Try.func48, Try.ntmps48
    go_wp2
    go_ret3
    exact ⟨by rw [HU.out]; rfl, rfl⟩

/-- A fact: its cell, its value and its time. -/
abbrev PFact := Nat × Int × Int
def factV (q : PFact) : Value := .agg #[.int .i64 ((q.1 : Int) / 10), .int .i64 ((q.1 : Int) % 10), .int .i64 q.2.1, .int .i64 q.2.2]

set_option maxRecDepth 20000 in
set_option maxHeartbeats 1000000 in
theorem newfact_any (k : Nat) (v t : Int) (w : World) (hk : k < 60) :
    Calls Try.prog 68 #[.int .i64 k, .int .i64 v, .int .i64 t] w fun e w' => e = .returned (factV (k, v, t)) ∧ w.grownBy w' none := by
  unfold factV
  go_enter Try.func68, Try.ntmps68
  go_wp2
  refine bodyPost_ret (results_cell_row Try.results68 _ _ _ _ _ _ _ rfl (heap_alloc_new _ _) Try.underlying97 rfl (by kernel_rfl)) rfl ⟨rfl, grown_alloc (grown_refl _ _) _⟩

set_option maxRecDepth 20000 in
set_option maxHeartbeats 1000000 in
theorem facttext_any (k : Nat) (v t : Int) (w : World) (hk : k < 60) (hv : 0 ≤ v) (hv2 : v ≤ 9) :
    Calls Try.prog 33 #[factV (k, v, t)] w fun e w' => e = .returned (.string (factP k v)) ∧ w.grownBy w' none := by
  have h1 : (97 : Int) + (k : Int) / 10 ≤ 255 := by omega
  have h2 : (48 : Int) + (k : Int) % 10 ≤ 255 := by omega
  have h3 : (48 : Int) + v ≤ 255 := by omega
  have hcv := run_convert_bytes_arg (P := Try.prog) ((w.alloc (.cells #[.int .i64 ((k : Int) / 10), .int .i64 ((k : Int) % 10), .int .i64 v, .int .i64 t] 97)).alloc (.cells #[.int .u8 (97 + (k : Int) / 10), .int .u8 (48 + (k : Int) % 10), .int .u8 (48 + v)] 5)) 99 5 Try.underlying99 Try.underlying5 (w.heap.size + 1) 0 3 3 [97 + (k : Int) / 10, 48 + (k : Int) % 10, 48 + v] rfl (by
    intro i hi
    rw [World.cell?_alloc_at _ _ _ _ (by simp)]
    match i, hi with
    | 0, _ => rfl
    | 1, _ => rfl
    | 2, _ => rfl) 9 Try.underlying9
  unfold factV
  go_enter Try.func33, Try.ntmps33
  go_wp2
  go_ret
  exact ⟨rfl, grown_alloc (grown_alloc (grown_refl _ _) _) _⟩

end Go.Proofs.Ythlhbjnkohinmaa
