/- The program's engine in memory: View. -/
import Derived.Test.YtcaenpfbihmjmaaPs7
namespace Go.Proofs.Ytcaenpfbihmjmaa
open Go.RowKit

theorem PAt.grown {w w' : World} {x : Nat} {X : PEng} {kv : Nat → Value} (h : PAt w x X kv) (hg : w.grownBy w' none) : PAt w' x X kv := by
  obtain ⟨cs, hb⟩ := h.block
  refine ⟨⟨cs, (hg.block x (lt_of_block hb) (by simp)).trans hb⟩, grown_cell hg h.opened, fun k hk => ?_, ⟨grown_cell hg h.store.latest, fun c hc => grown_cell hg (h.store.last c hc), fun c hc => grown_cell hg (h.store.kept c hc)⟩⟩
  have := h.ses k hk
  exact ⟨grown_cell hg this.num, grown_cell hg this.snap, fun c hc => grown_cell hg (this.made c hc), fun c hc => grown_cell hg (this.filled c hc), fun c hc => grown_cell hg (this.val c hc)⟩

theorem there_blk {w : World} {g n : Nat} {cs : Array Value} {t : TypeId} (hn : cs.size = n) (hb : w.heap[g]? = some (.cells cs t (0, 0))) : w.there g 0 n := fun j hj => by
  refine ⟨?_, frozen_blk hb _⟩
  rw [cell_of_row _ _ _ _ _ _ hb, Array.getElem?_eq_getElem (by omega)]
  rfl
theorem cell_setCells_ne {w : World} {b o x i : Nat} {vs : List Value} (h : x ≠ b) : (w.setCells b o vs).cell? ⟨x, i, none⟩ = w.cell? ⟨x, i, none⟩ := World.cell?_setCells_out b vs o w ⟨x, i, none⟩ (fun hb _ => absurd hb h)
theorem grown_setCells {w : World} {r : Option Nat} {b : Nat} (hb : w.heap.size ≤ b) : ∀ (vs : List Value) (o : Nat) {w' : World}, w.grownBy w' r → w.grownBy (w'.setCells b o vs) r
  | [], _, _, h => h
  | v :: vs, o, _, h => grown_setCells hb vs (o + 1) (grown_set h (.inr hb) v)
theorem there_new (w : World) {n : Nat} {cs : Array Value} {t : TypeId} (hn : cs.size = n) : (w.alloc (.cells cs t)).there w.heap.size 0 n := there_blk hn (heap_alloc_new w _)

set_option maxRecDepth 20000 in
set_option maxHeartbeats 2000000 in
theorem pview_any (x : Nat) (X : PEng) (kv : Nat → Value) (n : Int) (w : World) (h : PAt w x X kv) (hR : HRows w X kv) (hl : ∀ c, c < 60 → (X.hist c).length ≤ 9223372036854775807) (hd : ∀ k, findP X n = some k → Digs (seenP X k)) :
    Calls Try.prog 13 #[.pointer (some ⟨x, 0, none⟩), .int .i64 n] w fun e w' => e = .returned (.tuple #[.string (pviewF X n).1, .int .i64 (pviewF X n).2]) ∧ w.grownBy w' none := by
  have HF := hid (findp_any x X n w h.ses)
  unfold pviewF
  cases hf : findP X n with
  | none =>
    rw [hf] at HF
    clear h hf hR hl hd
    go_enter Try.func13, Try.ntmps13
    go_wp2_with fail
    go_at_call 29
    refine HF.out.mono ?_
    rintro e w' ⟨rfl, rfl⟩
    simp only [placeV]
    go_wp2
    go_ret2
    exact ⟨rfl, grown_refl _ _⟩
  | some k =>
    rw [hf] at HF
    have hk : k < 8 := by
      unfold findP at hf
      split at hf
      · cases hf
      · exact (numberedP_some hf).1
    simp only []
    have c1 := (h.ses k hk).snap
    have HP := hid h
    have hxl := h.lt
    have HD := hid (hd k hf)
    obtain ⟨sn, hsn⟩ : ∃ sn, sn = (X.ses k).snap := ⟨_, rfl⟩
    rw [← hsn] at c1
    have HAT : Hid (∀ W, w.grownBy W none → Calls Try.prog 30 #[.pointer (some ⟨x, 1459, none⟩), .int .i64 sn] W fun e w' => (∃ sc, e = .returned (.agg sc) ∧ StArr sc 60 (fun c => histAt (X.hist c) sn)) ∧ W.grownBy w' none) := hid (fun W hg => sat_any x 1459 X kv sn W (h.grown hg).store (fun c hc => ownsRow_grown hg (hR c hc)) hl)
    have HSV : Hid (∀ W sc, w.grownBy W none → StArr sc 60 (fun c => histAt (X.hist c) sn) → Calls Try.prog 31 #[.pointer (some ⟨x, 3 + k * 182, none⟩), .agg sc] W fun e w' => e = .returned (.string (viewP X k)) ∧ W.grownBy w' none) := hid (fun W sc hg hsc => by
      have := sview_any x (3 + k * 182) (X.ses k) (fun c => histAt (X.hist c) sn) sc W ((h.grown hg).ses k hk) hsc (by rw [hsn]; exact HD.out)
      rw [hsn] at this
      exact this)
    obtain ⟨hz, hzs⟩ := zero_of_info Try.zinfo89
    obtain ⟨z, hzz⟩ : ∃ z, z = zeroStates := ⟨_, rfl⟩
    have hzsz : Hid (z.size = 120) := hid (by rw [hzz]; exact zeroStates_size)
    rw [← hzz] at hz
    have HZS := hid hzs
    clear h hf hR hl hd hzz hzs hsn
    have hxz : x ≠ w.heap.size := by omega
    obtain ⟨vw, hvw⟩ : ∃ vw, vw = viewP X k := ⟨_, rfl⟩
    rw [← hvw] at HSV ⊢
    clear hvw
    go_enter Try.func13, Try.ntmps13
    go_wp2_with fail
    go_at_call 29
    refine HF.out.mono ?_
    rintro e w' ⟨rfl, rfl⟩
    simp only [placeV]
    go_wp2_with fail
    have hne := World.new_ne w' ⟨x, 3 + k * 182 + 1, none⟩ c1
    go_region_held3 (fun W => W.cell? ⟨x, 3 + k * 182 + 1, none⟩ = some (.int .i64 sn)) (first | go_keep | (exact grown_cell hg1 (by assumption)) | (rw [cell_setCells_ne (by first | exact hxn1 | exact hxz)]; assumption)) (first
      | (go_at_call 30
         refine (HAT.out _ (by first | exact grown_drewN (grown_refl _ _) 1 | exact grown_drewN (grown_alloc (grown_refl _ _) _) 1 | exact grown_alloc (grown_drewN (grown_refl _ _) 1) _)).mono ?_
         rintro e w1 ⟨⟨sc, rfl, hsc⟩, hg1⟩
         obtain ⟨cl, rfl⟩ : ∃ cl : List Value, sc = cl.toArray := ⟨sc.toList, by simp⟩
         have HSC := hid hsc
         have hcl : cl.length = 120 := by have := hsc.size; simpa using this
         have hinf : (Try.prog.info? 89).map (·.size) = some cl.length := HZS.out.trans (by rw [hcl])
         have hone : ∀ v ∈ cl, v.oneCell' = true := fun v hv => Array.all_eq_true_iff_forall_mem.1 hsc.one v (by simpa using hv)
         clear hsc
         have hxn1 : x ≠ w1.heap.size := by have := hg1.size; simp at this; omega
         have HthA : (w1.alloc (.cells z 89)).there w1.heap.size 0 120 := there_new w1 hzsz.out
         try (have HthB : w1.there w'.heap.size 0 120 := there_blk hzsz.out ((hg1.block w'.heap.size (by simp) (by simp)).trans (heap_alloc_new _ _)))))
    · have HR2 := hid (World.rangeAt_setCells_same _ w1.heap.size 0 cl (by rw [hcl]; exact HthA))
      have HG2 : Hid (w'.grownBy ((w1.alloc (.cells z 89)).setCells w1.heap.size 0 cl) none) := hid (grown_setCells (by have := hg1.size; simpa using this) _ _ (grown_alloc (grown_undrew (n := 1) hg1) _))
      clear HthA hg1
      generalize (w1.alloc (.cells z 89)).setCells w1.heap.size 0 cl = W2 at HR2 HG2 ⊢
      go_wp2_with (refine wpList_load_mid rfl 89 (.tmp 7) rfl w1.heap.size 0 rfl cl _ HR2.out Try.underlying89 rfl hinf ?_)
      go_at_call 31
      refine (HSV.out _ _ HG2.out HSC.out).mono ?_
      rintro e w3 ⟨rfl, hg3⟩
      have HG3 := hid hg3
      clear hg3
      go_wp2
      go_ret2
      exact ⟨rfl, grown_trans HG2.out HG3.out⟩
    · have HR2 := hid (World.rangeAt_setCells_same _ w'.heap.size 0 cl (by rw [hcl]; exact HthB))
      have HG2 : Hid (w'.grownBy (w1.setCells w'.heap.size 0 cl) none) := hid (grown_setCells (Nat.le_refl _) _ _ (grown_trans (by first | exact grown_drewN (grown_alloc (grown_refl _ _) _) 1 | exact grown_alloc (grown_drewN (grown_refl _ _) 1) _) hg1))
      clear HthA HthB hg1
      generalize w1.setCells w'.heap.size 0 cl = W2 at HR2 HG2 ⊢
      go_wp2_with (refine wpList_load_mid rfl 89 (.tmp 7) rfl w'.heap.size 0 rfl cl _ HR2.out Try.underlying89 rfl hinf ?_)
      go_at_call 31
      refine (HSV.out _ _ HG2.out HSC.out).mono ?_
      rintro e w3 ⟨rfl, hg3⟩
      have HG3 := hid hg3
      clear hg3
      go_wp2
      go_ret2
      exact ⟨rfl, grown_trans HG2.out HG3.out⟩

end Go.Proofs.Ytcaenpfbihmjmaa
