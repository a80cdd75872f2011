/- Variables that are not bound: a rule, and the first such rule. -/
import Derived.Test.YthlhbjnkohinmaaUb
namespace Go.Proofs.Ythlhbjnkohinmaa
open Go.RowKit

def cdLack (s : ByteArray) (p : Nat) (bs : Nat → Bool) : Bool := lackT bs (cdV s p).a1 (cdV s p).a2 || lackT bs (cdV s p).b1 (cdV s p).b2
def cdAdd (s : ByteArray) (p : Nat) (bs : Nat → Bool) : Nat → Bool := addT (addT bs (cdV s p).a1 (cdV s p).a2) (cdV s p).b1 (cdV s p).b2
def acLack (s : ByteArray) (p : Nat) (bs : Nat → Bool) : Bool := lackT bs (acV s p).a1 (acV s p).a2 || lackT bs (acV s p).b1 (acV s p).b2
/-- Which variables are bound behind some conditions; none: one of them lacks one. -/
def cdsBound (s : ByteArray) : List Nat → (Nat → Bool) → Option (Nat → Bool)
  | [], bs => some bs
  | p :: L, bs => if (cdV s p).k = 1 then cdsBound s L (cdAdd s p bs) else if cdLack s p bs then none else cdsBound s L bs
def acsLack (s : ByteArray) (K : List Nat) (bs : Nat → Bool) : Bool := K.any fun p => acLack s p bs
def unbB (s : ByteArray) (L K : List Nat) : Bool := match cdsBound s L (fun _ => false) with | none => true | some bs => acsLack s K bs

theorem cdsBound_append (s : ByteArray) : ∀ (A B : List Nat) (bs : Nat → Bool), cdsBound s (A ++ B) bs = (cdsBound s A bs).bind (cdsBound s B)
  | [], B, bs => rfl
  | p :: A, B, bs => by
    simp only [List.cons_append, cdsBound]
    split
    · exact cdsBound_append s A B _
    · split
      · rfl
      · exact cdsBound_append s A B _
theorem cdsBound_take {s : ByteArray} {L : List Nat} {k : Nat} {b0 bs : Nat → Bool} (hk : k < L.length) (h : cdsBound s (L.take k) b0 = some bs) :
    cdsBound s (L.take (k + 1)) b0 = if (cdV s L[k]).k = 1 then some (cdAdd s L[k] bs) else if cdLack s L[k] bs then none else some bs := by
  rw [List.take_succ_eq_append_getElem hk, cdsBound_append, h]
  simp only [Option.bind_some, cdsBound]
theorem cdsBound_none {s : ByteArray} {L : List Nat} {k : Nat} {b0 : Nat → Bool} (h : cdsBound s (L.take k) b0 = none) : cdsBound s L b0 = none := by
  rw [← List.take_append_drop k L, cdsBound_append, h]; rfl

theorem opV_bd (c : Int) (h : opK c = 2) : 0 ≤ opV c ∧ opV c < 4 := by
  unfold opK at h; unfold opV
  split at h
  · omega
  · split at h
    · rename_i h1 h2
      have : 119 ≤ c ∧ c ≤ 122 := by simpa [letB] using h2
      simp only [h1, h2]
      simp
      omega
    · omega
theorem cdV_a (s : ByteArray) (i : Nat) : ((cdV s i).a1 = 2 → 0 ≤ (cdV s i).a2 ∧ (cdV s i).a2 < 4) ∧ ((cdV s i).b1 = 2 → 0 ≤ (cdV s i).b2 ∧ (cdV s i).b2 < 4) := by
  unfold cdV
  split
  · exact ⟨opV_bd _, opV_bd _⟩
  · split
    · exact ⟨opV_bd _, opV_bd _⟩
    · exact ⟨opV_bd _, opV_bd _⟩
theorem acV_a (s : ByteArray) (i : Nat) : ((acV s i).a1 = 2 → 0 ≤ (acV s i).a2 ∧ (acV s i).a2 < 4) ∧ ((acV s i).b1 = 2 → 0 ≤ (acV s i).b2 ∧ (acV s i).b2 < 4) := by
  unfold acV
  split
  · exact ⟨opV_bd _, opV_bd _⟩
  · split
    · exact ⟨opV_bd _, fun h => by simp [empV] at h⟩
    · exact ⟨fun h => by simp at h, fun h => by simp at h⟩

theorem Bd_new (w : World) : Bd (w.alloc (.cells #[.bool false, .bool false, .bool false, .bool false] 196)) w.heap.size (fun _ => false) := heap_alloc_new w _

theorem grown_own2 {w W w3 : World} {r row : Option Nat} (h : w.grownBy W r) (k : W.grownBy w3 row) (hrow : ∀ g, row = some g → w.heap.size ≤ g) : w.grownBy w3 r :=
  ⟨k.os.trans h.os, k.tape.trans h.tape, k.output.trans h.output, Nat.le_trans h.size k.size, fun i hi hb => (k.block i (Nat.lt_of_lt_of_le hi h.size) (fun e => by have := hrow i e.symm; omega)).trans (h.block i hi hb)⟩

set_option maxHeartbeats 4000000 in
theorem unbound_any (s : ByteArray) (L K : List Nat) (x : Int) (a1 a2 : Option Addr) (m1 c1 m2 c2 B : Nat) (w : World) (hL : L.length ≤ 400) (hK : K.length ≤ 400)
    (h1 : w.ownsRow B 163 7 (.slice a1 m1 c1) L.length (cdsCells s L)) (h2 : w.ownsRow B 175 8 (.slice a2 m2 c2) K.length (acsCells s K)) :
    Calls Try.prog 83 #[.agg #[.int .i64 x, .slice a1 m1 c1, .slice a2 m2 c2]] w fun e w' => e = .returned (.bool (unbB s L K)) ∧ w.grownBy w' none := by
  have e1 := own_len h1
  have e2 := own_len h2
  subst e1 e2
  have hfun : ∃ q, q = unbB s L K := ⟨_, rfl⟩
  obtain ⟨q, hq⟩ := hfun
  have HQ := hid hq
  rw [← hq]
  clear hq
  go_enter Try.func83, Try.ntmps83
  go_wp2_with fail
  go_loopw [11] (fun t wr => ∃ (k : Nat) (bs : Nat → Bool), k ≤ L.length ∧ t = .int .i64 k ∧ w.grownBy wr none ∧ Bd wr (w.heap.size + 1) bs ∧ wr.cell? ⟨w.heap.size, 2, none⟩ = some (.slice a2 K.length c2) ∧ w.heap.size + 1 < wr.heap.size ∧ cdsBound s (L.take k) (fun _ => false) = some bs) (fun t _ => L.length - (intOf t).toNat)
  case atStart =>
    refine ⟨0, fun _ => false, Nat.zero_le _, rfl, grown_alloc (grown_alloc (grown_refl _ _) _) _, ?_, by simp [go_sem], by simp, rfl⟩
    have h := Bd_new (w.alloc (.cells #[.int .i64 x, .slice a1 L.length c1, .slice a2 K.length c2] 130))
    simpa using h
  case round =>
    obtain ⟨k, bs, hk, rfl, hg, hbd, hbx, hsz, hbo⟩ := hrel
    have HBO := hid hbo
    clear hbo
    have hz1 : w.heap.size + 1 ≠ wr.heap.size := by omega
    have hz2 : wr.heap.size ≠ w.heap.size + 1 := by omega
    by_cases hlt : k < L.length
    · obtain ⟨g, rfl, hgl, hgb, d0, d1, d2, d3, d4, d5, d6⟩ := cds_cells h1 hg (fun g hg => by cases hg) hlt
      obtain ⟨hv1, hv2⟩ := cdV_a s L[k]
      have HT := hid (cdsBound_take hlt HBO.out)
      by_cases hk1 : (cdV s L[k]).k = 1
      · have HA1 := hid (fun (W : World) (hW : Bd W (w.heap.size + 1) bs) => add_any bs (cdV s L[k]).a1 (cdV s L[k]).a2 (w.heap.size + 1) W hW hv1)
        have HA2 := hid (fun (W : World) (hW : Bd W (w.heap.size + 1) (addT bs (cdV s L[k]).a1 (cdV s L[k]).a2)) => add_any (addT bs (cdV s L[k]).a1 (cdV s L[k]).a2) (cdV s L[k]).b1 (cdV s L[k]).b2 (w.heap.size + 1) W hW hv2)
        rw [if_pos hk1] at HT
        clear hv1 hv2
        go_wp2_with fail
        go_at_call 93
        refine (HA1.out _ (hbd.alloc _)).mono ?_
        rintro e w2 ⟨rfl, hb2, hg2⟩
        obtain ⟨hc2, hf2⟩ := gcell hg2
        go_wp2_with fail
        go_at_call 93
        refine (HA2.out _ hb2).mono ?_
        rintro e w3 ⟨rfl, hb3, hg3⟩
        have hg' : w.grownBy w3 none := grown_own2 (grown_own2 (grown_alloc hg _) hg2 (fun g hg => by cases hg; omega)) hg3 (fun g hg => by cases hg; omega)
        have hbx' : w3.cell? ⟨w.heap.size, 2, none⟩ = some (.slice a2 K.length c2) := hg3.cell (hg2.cell (a := ⟨w.heap.size, 2, none⟩) (by rw [World.cell?_alloc_past _ _ _ (by omega)]; exact hbx) (by simp)) (by simp)
        have hsz' : w.heap.size + 1 < w3.heap.size := by have := hg2.size; have := hg3.size; simp at *; omega
        clear hg2 hg3 hc2 hf2 hb2 hbd hbx hg
        go_wp2
        go_roundw
        case rel => exact ⟨k + 1, _, by omega, by go_num, hg', hb3, hbx', hsz', HT.out⟩
        case measure => simp [intOf]; omega
      · have hk2 : ((cdV s L[k]).k == 1) = false := by simpa using hk1
        rw [if_neg hk1] at HT
        have HLK := hid (fun (W : World) (hW : Bd W (w.heap.size + 1) bs) => lacks_any bs (cdV s L[k]).a1 (cdV s L[k]).a2 (cdV s L[k]).b1 (cdV s L[k]).b2 (w.heap.size + 1) W hW hv1 hv2)
        clear hv1 hv2
        change Hid (∀ (W : World) (hW : Bd W (w.heap.size + 1) bs), Calls Try.prog 94 _ W fun e w' => e = .returned (.bool (cdLack s L[k] bs)) ∧ W.grownBy w' none) at HLK
        by_cases hlk : cdLack s L[k] bs = true
        · rw [if_pos hlk] at HT
          rw [hlk] at HLK
          have HU : Hid (q = true) := hid (by rw [HQ.out]; unfold unbB; rw [cdsBound_none HT.out])
          go_wp2_with fail
          go_at_call 94
          refine (HLK.out _ (hbd.alloc _)).mono ?_
          rintro e w2 ⟨rfl, hg2⟩
          go_wp2
          go_ret
          exact ⟨ret_bool HU.out.symm, grown_trans (grown_alloc hg _) hg2⟩
        · rw [if_neg hlk] at HT
          have hlk' : cdLack s L[k] bs = false := by simpa using hlk
          rw [hlk'] at HLK
          go_wp2_with fail
          go_at_call 94
          refine (HLK.out _ (hbd.alloc _)).mono ?_
          rintro e w2 ⟨rfl, hg2⟩
          have hb2 := (hbd.alloc _).kept hg2 (by simp)
          have hbx' : w2.cell? ⟨w.heap.size, 2, none⟩ = some (.slice a2 K.length c2) := hg2.cell (a := ⟨w.heap.size, 2, none⟩) (by rw [World.cell?_alloc_past _ _ _ (by omega)]; exact hbx) (by simp)
          have hsz' : w.heap.size + 1 < w2.heap.size := by have := hg2.size; simp at *; omega
          have hg' : w.grownBy w2 none := grown_trans (grown_alloc hg _) hg2
          clear hg2 hbd hbx hg
          go_wp2
          go_roundw
          case rel => exact ⟨k + 1, _, by omega, by go_num, hg', hb2, hbx', hsz', HT.out⟩
          case measure => simp [intOf]; omega
    · have HBO' : Hid (cdsBound s L (fun _ => false) = some bs) := hid (by have := HBO.out; rwa [List.take_of_length_le (by omega)] at this)
      have HU : Hid (q = acsLack s K bs) := hid (by rw [HQ.out]; unfold unbB; rw [HBO'.out])
      clear HBO
      go_wp2_with fail
      go_loopw [33] (fun t wr => ∃ (k : Nat), k ≤ K.length ∧ t = .int .i64 k ∧ w.grownBy wr none ∧ Bd wr (w.heap.size + 1) bs ∧ acsLack s (K.take k) bs = false) (fun t _ => K.length - (intOf t).toNat)
      case atStart => exact ⟨0, Nat.zero_le _, rfl, hg, hbd, rfl⟩
      case round =>
        clear hg hbd hbx hsz hz1 hz2
        obtain ⟨k', hk', rfl, hg, hbd, hla⟩ := hrel
        have HLA := hid hla
        clear hla
        by_cases hlt' : k' < K.length
        · obtain ⟨g, rfl, hgl, hgb, d0, d1, d2, d3, d4, d5, d6, d7⟩ := acs_cells h2 hg (fun g hg => by cases hg) hlt'
          obtain ⟨hv1, hv2⟩ := acV_a s K[k']
          have HLK := hid (fun (W : World) (hW : Bd W (w.heap.size + 1) bs) => lacks_any bs (acV s K[k']).a1 (acV s K[k']).a2 (acV s K[k']).b1 (acV s K[k']).b2 (w.heap.size + 1) W hW hv1 hv2)
          clear hv1 hv2
          change Hid (∀ (W : World) (hW : Bd W (w.heap.size + 1) bs), Calls Try.prog 94 _ W fun e w' => e = .returned (.bool (acLack s K[k'] bs)) ∧ W.grownBy w' none) at HLK
          have HT : Hid (acsLack s (K.take (k' + 1)) bs = acLack s K[k'] bs) := hid (by
            have := HLA.out
            unfold acsLack at this ⊢
            rw [List.take_succ_eq_append_getElem hlt', List.any_append, this]; simp)
          by_cases hlk : acLack s K[k'] bs = true
          · rw [hlk] at HLK
            have HU' : Hid (q = true) := hid (by
              rw [HU.out]
              have := HT.out
              rw [hlk] at this
              unfold acsLack at this ⊢
              rw [← List.take_append_drop (k' + 1) K, List.any_append, this]; simp)
            go_wp2_with fail
            go_at_call 94
            refine (HLK.out _ (hbd.alloc _)).mono ?_
            rintro e w2 ⟨rfl, hg2⟩
            go_wp2
            go_ret
            exact ⟨ret_bool HU'.out.symm, grown_trans (grown_alloc hg _) hg2⟩
          · have hlk' : acLack s K[k'] bs = false := by simpa using hlk
            rw [hlk'] at HLK HT
            go_wp2_with fail
            go_at_call 94
            refine (HLK.out _ (hbd.alloc _)).mono ?_
            rintro e w2 ⟨rfl, hg2⟩
            have hb2 := (hbd.alloc _).kept hg2 (by simp)
            have hg' : w.grownBy w2 none := grown_trans (grown_alloc hg _) hg2
            clear hg2 hbd hg
            go_wp2
            go_roundw
            case rel => exact ⟨k' + 1, by omega, by go_num, hg', hb2, HT.out⟩
            case measure => simp [intOf]; omega
        · have HU' : Hid (q = false) := hid (by rw [HU.out]; have := HLA.out; rwa [List.take_of_length_le (by omega)] at this)
          go_wp2
          go_ret
          exact ⟨ret_bool HU'.out.symm, hg⟩

end Go.Proofs.Ythlhbjnkohinmaa
