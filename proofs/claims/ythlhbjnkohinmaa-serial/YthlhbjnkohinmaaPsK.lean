/- The program's versions in memory: how many are kept, how many cells a session wrote, whether there is room. -/
import Derived.Test.YthlhbjnkohinmaaPs13
namespace Go.Proofs.Ythlhbjnkohinmaa
open Go.RowKit

theorem kept_cell {w : World} {b o : Nat} {X : PEng} {kv : Nat → Value} (h : StoreAt w b o X kv) (hR : HRows w X kv) {c : Nat} (hc : c < 60) : ∃ a cp, w.cell? ⟨b, o + 1 + c * 2 + 1, none⟩ = some (.slice a (X.hist c).length cp) := by
  have h1 := hR c hc
  obtain ⟨a, m, cp, e⟩ := own_slice h1
  rw [e] at h1
  have em := own_len h1
  subst em
  exact ⟨a, cp, by rw [← e]; exact h.kept c hc⟩

set_option maxRecDepth 20000 in
set_option maxHeartbeats 1000000 in
theorem kept_any (b o : Nat) (X : PEng) (kv : Nat → Value) (w : World) (h : StoreAt w b o X kv) (hR : HRows w X kv) (hm : keptN X 60 ≤ 9223372036854775807) :
    Calls Try.prog 45 #[.pointer (some ⟨b, o, none⟩)] w fun e w' => e = .returned (.int .i64 (keptN X 60 : Nat)) ∧ w' = w := by
  have HK : Hid (∀ c, c < 60 → ∃ a cp, w.cell? ⟨b, o + 1 + c * 2 + 1, none⟩ = some (.slice a (X.hist c).length cp)) := hid (fun c hc => kept_cell h hR hc)
  have HM : Hid (∀ k, k ≤ 60 → keptN X k ≤ 9223372036854775807) := hid (fun k hk => Nat.le_trans (keptN_mono X hk) hm)
  clear h hR hm
  go_enter Try.func45, Try.ntmps45
  go_wp2_with fail
  go_loop [3, 4] (fun t i => ∃ k : Nat, k ≤ 60 ∧ i = .int .i64 k ∧ t = .int .i64 (keptN X k : Nat)) (fun _ i => 60 - (intOf i).toNat)
  case atStart => exact ⟨0, by omega, rfl, rfl⟩
  case round =>
    obtain ⟨k, hk, rfl, rfl⟩ := hrel
    by_cases hlt : k < 60
    · obtain ⟨a, cp, d0⟩ := HK.out k hlt
      have hle := HM.out (k + 1) (by omega)
      have HSU : Hid (keptN X (k + 1) = keptN X k + (X.hist k).length) := hid rfl
      rw [HSU.out] at hle
      obtain ⟨m, hm⟩ : ∃ m, m = keptN X k := ⟨_, rfl⟩
      obtain ⟨l, hl⟩ : ∃ l, l = (X.hist k).length := ⟨_, rfl⟩
      rw [← hm, ← hl] at hle HSU
      rw [← hl] at d0
      rw [← hm]
      clear hm hl
      go_wp2
      go_round
      case rel => exact ⟨k + 1, by omega, by go_num, by rw [HSU.out]; go_num⟩
      case measure => simp [intOf]; omega
    · have e : k = 60 := by omega
      subst e
      go_wp2
      go_ret
      exact ⟨rfl, rfl⟩

set_option maxRecDepth 20000 in
set_option maxHeartbeats 1000000 in
theorem swritten_any (b o : Nat) (S : PSes) (w : World) (h : SesAt w b o S) :
    Calls Try.prog 54 #[.pointer (some ⟨b, o, none⟩)] w fun e w' => e = .returned (.int .i64 (writN S 60 : Nat)) ∧ w' = w := by
  have HM := hid h.made
  clear h
  go_enter Try.func54, Try.ntmps54
  go_wp2_with fail
  go_loop [3, 4] (fun t i => ∃ k : Nat, k ≤ 60 ∧ i = .int .i64 k ∧ t = .int .i64 (writN S k : Nat)) (fun _ i => 60 - (intOf i).toNat)
  case atStart => exact ⟨0, by omega, rfl, rfl⟩
  case round =>
    obtain ⟨k, hk, rfl, rfl⟩ := hrel
    have hle := writN_le S k
    by_cases hlt : k < 60
    · have d0 := HM.out k hlt
      have HSU : Hid (writN S (k + 1) = writN S k + (if wMade (S.wr k) then 1 else 0)) := hid rfl
      obtain ⟨m, hm⟩ : ∃ m, m = writN S k := ⟨_, rfl⟩
      rw [← hm] at hle HSU
      rw [← hm]
      clear hm
      cases hw : wMade (S.wr k) with
      | true =>
        rw [hw] at d0 HSU
        clear hw
        go_wp2
        go_round
        case rel => exact ⟨k + 1, by omega, by go_num, by rw [HSU.out]; go_num⟩
        case measure => simp [intOf]; omega
      | false =>
        rw [hw] at d0 HSU
        clear hw
        go_wp2
        go_round
        case rel => exact ⟨k + 1, by omega, by go_num, by rw [HSU.out]; rfl⟩
        case measure => simp [intOf]; omega
    · have e : k = 60 := by omega
      subst e
      go_wp2
      go_ret
      exact ⟨rfl, rfl⟩

set_option maxRecDepth 20000 in
set_option maxHeartbeats 1000000 in
/-- There is room without a sweep. -/
theorem hasroom_yes (x : Nat) (X : PEng) (kv : Nat → Value) (m : Nat) (w : World) (h : PAt w x X kv) (hR : HRows w X kv) (hr : ((keptN X 60 + m : Nat) : Int) ≤ X.room) (h9 : X.room ≤ 999) :
    Calls Try.prog 55 #[.pointer (some ⟨x, 0, none⟩), .int .i64 m] w fun e w' => e = .returned (.bool true) ∧ w' = w := by
  have HK := hid (kept_any x 1955 X kv w h.store hR (by omega))
  have c1 := h.room
  obtain ⟨rm, hrm⟩ : ∃ rm, rm = X.room := ⟨_, rfl⟩
  obtain ⟨kn, hkn⟩ : ∃ kn, kn = keptN X 60 := ⟨_, rfl⟩
  rw [← hrm] at c1 hr h9
  rw [← hkn] at HK hr
  clear hrm hkn h hR
  go_enter Try.func55, Try.ntmps55
  go_wp2_with fail
  go_at_call 45
  refine HK.out.mono ?_
  rintro e w' ⟨rfl, rfl⟩
  go_wp2
  go_ret
  exact ⟨rfl, rfl⟩

end Go.Proofs.Ythlhbjnkohinmaa
