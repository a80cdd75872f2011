/- The program's engine in memory: View. -/
import Derived.Test.YthlhbjnkohinmaaPs7
namespace Go.Proofs.Ythlhbjnkohinmaa
open Go.RowKit

theorem PAt.grown {w w' : World} {x : Nat} {X : PEng} {kv : Nat → Value} (h : PAt w x X kv) (hg : w.grownBy w' none) : PAt w' x X kv := by
  obtain ⟨cs, hb⟩ := h.block
  refine ⟨⟨cs, (hg.block x (lt_of_block hb) (by simp)).trans hb⟩, grown_cell hg h.rules, grown_cell hg h.room, grown_cell hg h.opened, fun k hk => ?_, ⟨grown_cell hg h.store.latest, fun c hc => grown_cell hg (h.store.last c hc), fun c hc => grown_cell hg (h.store.kept c hc)⟩⟩
  have := h.ses k hk
  exact ⟨grown_cell hg this.num, grown_cell hg this.snap, grown_cell hg this.cnt, fun c hc => grown_cell hg (this.made c hc), fun c hc => grown_cell hg (this.filled c hc), fun c hc => grown_cell hg (this.val c hc), fun c hc => grown_cell hg (this.tm c hc), grown_cell hg this.mks, this.ok⟩

theorem there_blk {w : World} {g n : Nat} {cs : Array Value} {t : TypeId} (hn : cs.size = n) (hb : w.heap[g]? = some (.cells cs t (0, 0))) : w.there g 0 n := fun j hj => by
  refine ⟨?_, frozen_blk hb _⟩
  rw [cell_of_row _ _ _ _ _ _ hb, Array.getElem?_eq_getElem (by omega)]
  rfl
theorem cell_setCells_ne {w : World} {b o x i : Nat} {vs : List Value} (h : x ≠ b) : (w.setCells b o vs).cell? ⟨x, i, none⟩ = w.cell? ⟨x, i, none⟩ := World.cell?_setCells_out b vs o w ⟨x, i, none⟩ (fun hb _ => absurd hb h)
theorem grown_setCells {w : World} {r : Option Nat} {b : Nat} (hb : w.heap.size ≤ b) : ∀ (vs : List Value) (o : Nat) {w' : World}, w.grownBy w' r → w.grownBy (w'.setCells b o vs) r
  | [], _, _, h => h
  | v :: vs, o, _, h => grown_setCells hb vs (o + 1) (grown_set h (.inr hb) v)
theorem there_new (w : World) {n : Nat} {cs : Array Value} {t : TypeId} (hn : cs.size = n) : (w.alloc (.cells cs t)).there w.heap.size 0 n := there_blk hn (heap_alloc_new w _)

/-- The facts that the session in a place sees. -/
def sawX (X : PEng) (k : Nat) : List PFact := sawN (X.ses k) (fun c => histV (X.hist c) (X.ses k).snap) 60
/-- Values are digits. -/
def Digs (g : Nat → Option Int) : Prop := ∀ c v, c < 60 → g c = some v → 0 ≤ v ∧ v ≤ 9
theorem seenT_one (X : PEng) (k c : Nat) : (seenT (X.ses k) (fun c => histV (X.hist c) (X.ses k).snap) c).map (·.1) = seenP X k c := by
  unfold seenT seenP
  cases h : (X.ses k).wr c with
  | none => simp [histV_two, Function.comp_def]
  | some v => simp [Function.comp_def]
theorem sawX_mem {X : PEng} {k : Nat} {q : PFact} (h : q ∈ sawX X k) : q.1 < 60 ∧ seenP X k q.1 = some q.2.1 := by
  unfold sawX sawN at h
  obtain ⟨c, hc, hm⟩ := List.mem_filterMap.mp h
  cases hs : seenT (X.ses k) (fun c => histV (X.hist c) (X.ses k).snap) c with
  | none => rw [hs] at hm; cases hm
  | some p =>
    rw [hs] at hm
    simp only [Option.map_some, Option.some.injEq] at hm
    rw [← hm]
    have := seenT_one X k c
    rw [hs] at this
    exact ⟨by simpa using hc, this.symm⟩
theorem viewP_saw (X : PEng) (k : Nat) : viewP X k = joined ((sawX X k).map fun q => factP q.1 q.2.1) := by
  unfold viewP sawX sawN
  rw [List.map_filterMap]
  congr 2
  funext c
  rw [← seenT_one X k c]
  cases seenT (X.ses k) (fun c => histV (X.hist c) (X.ses k).snap) c <;> rfl
theorem sawX_le (X : PEng) (k : Nat) : (sawX X k).length ≤ 60 := sawN_le _ _ _

set_option maxRecDepth 20000 in
set_option maxHeartbeats 2000000 in
theorem pseen_any (x : Nat) (X : PEng) (kv : Nat → Value) (k : Nat) (w : World) (hk : k < 8) (h : PAt w x X kv) (hR : HRows w X kv) (hl : ∀ c, c < 60 → (X.hist c).length ≤ 9223372036854775807) :
    Calls Try.prog 32 #[.pointer (some ⟨x, 0, none⟩), .pointer (some ⟨x, 3 + k * 244, none⟩)] w fun e w' => ∃ v, e = .returned v ∧ w'.ownsRow w.heap.size 97 4 v (sawX X k).length (fcCells (sawX X k)) ∧ w.grownBy w' none := by
  have c1 := (h.ses k hk).snap
  have hxl := h.lt
  obtain ⟨sn, hsn⟩ : ∃ sn, sn = (X.ses k).snap := ⟨_, rfl⟩
  rw [← hsn] at c1
  have HAT : Hid (∀ W, w.grownBy W none → Calls Try.prog 40 #[.pointer (some ⟨x, 1955, none⟩), .int .i64 sn] W fun e w' => (∃ sc, e = .returned (.agg sc) ∧ StArr sc 60 (fun c => histV (X.hist c) sn)) ∧ W.grownBy w' none) := hid (fun W hg => sat_any x 1955 X kv sn W (h.grown hg).store (fun c hc => ownsRow_grown hg (hR c hc)) hl)
  have HSV : Hid (∀ W sc, w.grownBy W none → StArr sc 60 (fun c => histV (X.hist c) sn) → Calls Try.prog 47 #[.pointer (some ⟨x, 3 + k * 244, none⟩), .agg sc] W fun e w' => ∃ v, e = .returned v ∧ w'.ownsRow w.heap.size 97 4 v (sawX X k).length (fcCells (sawX X k)) ∧ W.grownBy w' none) := hid (fun W sc hg hsc => by
    have := ssees_any x (3 + k * 244) (X.ses k) (fun c => histV (X.hist c) sn) sc W ((h.grown hg).ses k hk) hsc
    rw [hsn] at this
    refine this.mono ?_
    rintro e w' ⟨v, rfl, ho, hg'⟩
    exact ⟨v, rfl, own_mono ho hg.size, hg'⟩)
  obtain ⟨hz, hzs⟩ := zero_of_info Try.zinfo109
  obtain ⟨z, hzz⟩ : ∃ z, z = zeroStates := ⟨_, rfl⟩
  have hzsz : Hid (z.size = 180) := hid (by rw [hzz]; exact zeroStates_size)
  rw [← hzz] at hz
  have HZS := hid hzs
  clear h hR hl hzz hzs hsn
  have hxz : x ≠ w.heap.size := by omega
  obtain ⟨F, hF⟩ : ∃ F, F = sawX X k := ⟨_, rfl⟩
  rw [← hF] at HSV ⊢
  clear hF
  go_enter Try.func32, Try.ntmps32
  go_wp2_with fail
  have hne := World.new_ne w ⟨x, 3 + k * 244 + 1, none⟩ c1
  go_region_held3 (fun W => W.cell? ⟨x, 3 + k * 244 + 1, none⟩ = some (.int .i64 sn)) (first | go_keep | (exact grown_cell hg1 (by assumption)) | (rw [cell_setCells_ne (by first | exact hxn1 | exact hxz)]; assumption)) (first
    | (go_at_call 40
       refine (HAT.out _ (by first | exact grown_drewN (grown_refl _ _) 1 | exact grown_drewN (grown_alloc (grown_refl _ _) _) 1 | exact grown_alloc (grown_drewN (grown_refl _ _) 1) _)).mono ?_
       rintro e w1 ⟨⟨sc, rfl, hsc⟩, hg1⟩
       obtain ⟨cl, rfl⟩ : ∃ cl : List Value, sc = cl.toArray := ⟨sc.toList, by simp⟩
       have HSC := hid hsc
       have hcl : cl.length = 180 := by have := hsc.size; simpa using this
       have hinf : (Try.prog.info? 109).map (·.size) = some cl.length := HZS.out.trans (by rw [hcl])
       have hone : ∀ v ∈ cl, v.oneCell' = true := fun v hv => Array.all_eq_true_iff_forall_mem.1 hsc.one v (by simpa using hv)
       clear hsc
       have hxn1 : x ≠ w1.heap.size := by have := hg1.size; simp at this; omega
       have HthA : (w1.alloc (.cells z 109)).there w1.heap.size 0 180 := there_new w1 hzsz.out
       try (have HthB : w1.there w.heap.size 0 180 := there_blk hzsz.out ((hg1.block w.heap.size (by simp) (by simp)).trans (heap_alloc_new _ _)))))
  · have HR2 := hid (World.rangeAt_setCells_same _ w1.heap.size 0 cl (by rw [hcl]; exact HthA))
    have HG2 : Hid (w.grownBy ((w1.alloc (.cells z 109)).setCells w1.heap.size 0 cl) none) := hid (grown_setCells (by have := hg1.size; simpa using this) _ _ (grown_alloc (grown_undrew (n := 1) hg1) _))
    clear HthA hg1
    generalize (w1.alloc (.cells z 109)).setCells w1.heap.size 0 cl = W2 at HR2 HG2 ⊢
    go_wp2_with (refine wpList_load_mid rfl 109 (.tmp 5) rfl w1.heap.size 0 rfl cl _ HR2.out Try.underlying109 rfl hinf ?_)
    go_at_call 47
    refine (HSV.out _ _ HG2.out HSC.out).mono ?_
    rintro e w3 ⟨v, rfl, hown, hg3⟩
    have HG3 := hid hg3
    have HOW := hid hown
    clear hg3 hown
    go_wp2
    go_ret
    exact ⟨v, rfl, HOW.out, grown_trans HG2.out HG3.out⟩
  · have HR2 := hid (World.rangeAt_setCells_same _ w.heap.size 0 cl (by rw [hcl]; exact HthB))
    have HG2 : Hid (w.grownBy (w1.setCells w.heap.size 0 cl) none) := hid (grown_setCells (Nat.le_refl _) _ _ (grown_trans (by first | exact grown_drewN (grown_alloc (grown_refl _ _) _) 1 | exact grown_alloc (grown_drewN (grown_refl _ _) 1) _) hg1))
    clear HthA HthB hg1
    generalize w1.setCells w.heap.size 0 cl = W2 at HR2 HG2 ⊢
    go_wp2_with (refine wpList_load_mid rfl 109 (.tmp 5) rfl w.heap.size 0 rfl cl _ HR2.out Try.underlying109 rfl hinf ?_)
    go_at_call 47
    refine (HSV.out _ _ HG2.out HSC.out).mono ?_
    rintro e w3 ⟨v, rfl, hown, hg3⟩
    have HG3 := hid hg3
    have HOW := hid hown
    clear hg3 hown
    go_wp2
    go_ret
    exact ⟨v, rfl, HOW.out, grown_trans HG2.out HG3.out⟩

theorem joined_take (F : List PFact) (j : Nat) (hj : j < F.length) : joined ((F.take (j + 1)).map fun q => factP q.1 q.2.1) = joined ((F.take j).map fun q => factP q.1 q.2.1) ++ factP F[j].1 F[j].2.1 := by
  rw [List.take_succ_eq_append_getElem hj, List.map_append]
  exact joined_snoc _ _
theorem joined_facts_size (F : List PFact) : (joined (F.map fun q => factP q.1 q.2.1)).size = 3 * F.length := by
  have key : ∀ (l : List PFact) (z : ByteArray), ((l.map fun q => factP q.1 q.2.1).foldl (· ++ ·) z).size = z.size + 3 * l.length := by
    intro l
    induction l with
    | nil => intro z; simp
    | cons q l ih =>
      intro z
      rw [List.map_cons, List.foldl_cons, ih, ByteArray.size_append, size_factP]
      simp
      omega
  have := key F ByteArray.empty
  unfold joined
  rw [this]
  simp

set_option maxRecDepth 20000 in
set_option maxHeartbeats 2000000 in
theorem pview_any (x : Nat) (X : PEng) (kv : Nat → Value) (n : Int) (w : World) (h : PAt w x X kv) (hR : HRows w X kv) (hl : ∀ c, c < 60 → (X.hist c).length ≤ 9223372036854775807) (hd : ∀ k, findP X n = some k → Digs (seenP X k)) :
    Calls Try.prog 14 #[.pointer (some ⟨x, 0, none⟩), .int .i64 n] w fun e w' => e = .returned (.tuple #[.string (pviewF X n).1, .int .i64 (pviewF X n).2]) ∧ w.grownBy w' none := by
  have HF := hid (findp_any x X n w h.ses)
  unfold pviewF
  cases hf : findP X n with
  | none =>
    rw [hf] at HF
    clear h hf hR hl hd
    go_enter Try.func14, Try.ntmps14
    go_wp2_with fail
    go_at_call 31
    refine HF.out.mono ?_
    rintro e w' ⟨rfl, rfl⟩
    simp only [placeV]
    go_wp2
    go_ret2
    exact ⟨rfl, grown_refl _ _⟩
  | some k =>
    rw [hf] at HF
    have hk : k < 8 := by
      unfold findP at hf
      split at hf
      · cases hf
      · exact (numberedP_some hf).1
    simp only []
    have HSE := hid (pseen_any x X kv k w hk h hR hl)
    have HD : Hid (∀ q ∈ sawX X k, q.1 < 60 ∧ 0 ≤ q.2.1 ∧ q.2.1 ≤ 9) := hid (fun q hq => ⟨(sawX_mem hq).1, hd k hf q.1 q.2.1 (sawX_mem hq).1 (sawX_mem hq).2⟩)
    have hFl := sawX_le X k
    rw [viewP_saw]
    obtain ⟨F, hF⟩ : ∃ F, F = sawX X k := ⟨_, rfl⟩
    rw [← hF] at HSE HD hFl ⊢
    clear h hf hR hl hd hF
    go_enter Try.func14, Try.ntmps14
    go_wp2_with fail
    go_at_call 31
    refine HF.out.mono ?_
    rintro e w' ⟨rfl, rfl⟩
    simp only [placeV]
    go_wp2_with fail
    go_at_call 32
    refine HSE.out.mono ?_
    rintro e w1 ⟨v, rfl, hown, hg1⟩
    obtain ⟨a, m, c, rfl⟩ := own_slice hown
    have em := own_len hown
    subst em
    have HG1 := hid hg1
    have HOW := hid hown
    clear HSE hg1 hown HF
    go_wp2_with fail
    go_loopw [8, 21] (fun t i wr => ∃ j : Nat, j ≤ F.length ∧ i = .int .i64 j ∧ t = .string (joined ((F.take j).map fun q => factP q.1 q.2.1)) ∧ w1.grownBy wr none) (fun _ i _ => F.length - (intOf i).toNat)
    case atStart => exact ⟨0, Nat.zero_le _, rfl, rfl, grown_refl _ _⟩
    case round =>
      obtain ⟨j, hj, rfl, rfl, hg⟩ := hrel
      have HG := hid hg
      by_cases hlt : j < F.length
      · have how := own_kept HOW.out hg (fun g hg => by cases hg)
        obtain ⟨g, rfl, _, hgb, hgl, hcell⟩ := own_cell how (by omega)
        obtain ⟨a0, a1, a2, a3⟩ := fcCells_at F j hlt
        have d0 := hcell _ _ a0
        have d1 := hcell _ _ a1
        have d2 := hcell _ _ a2
        have d3 := hcell _ _ a3
        obtain ⟨hb1, hb2, hb3⟩ := HD.out F[j] (List.getElem_mem hlt)
        have HTX := hid (fun W => facttext_any F[j].1 F[j].2.1 F[j].2.2 W hb1 hb2 hb3)
        unfold factV at HTX
        have HJ := hid (joined_take F j hlt)
        have hjs : (joined ((F.take j).map fun q => factP q.1 q.2.1)).size ≤ 180 := by rw [joined_facts_size]; simp; omega
        have hfz := size_factP F[j].1 F[j].2.1
        obtain ⟨jt, hjt⟩ : ∃ jt, jt = joined ((F.take j).map fun q => factP q.1 q.2.1) := ⟨_, rfl⟩
        obtain ⟨ft, hft⟩ : ∃ ft, ft = factP F[j].1 F[j].2.1 := ⟨_, rfl⟩
        rw [← hjt] at hjs HJ ⊢
        rw [← hft] at hfz HJ HTX
        have hgz : g ≠ wr.heap.size := by omega
        obtain ⟨c0, hc0⟩ : ∃ c0, c0 = F[j].1 := ⟨_, rfl⟩
        obtain ⟨v0, hv0⟩ : ∃ v0, v0 = F[j].2.1 := ⟨_, rfl⟩
        obtain ⟨t0, ht0⟩ : ∃ t0, t0 = F[j].2.2 := ⟨_, rfl⟩
        rw [← hc0] at d0 d1
        rw [← hv0] at d2
        rw [← ht0] at d3
        simp only [] at HTX
        rw [← hc0, ← hv0, ← ht0] at HTX
        clear hjt hft hcell a0 a1 a2 a3 hb1 hb2 hb3 hc0 hv0 ht0 how hg
        go_wp2_with fail
        go_at_call 33
        refine (HTX.out _).mono ?_
        rintro e w2 ⟨rfl, hg2⟩
        have HG2 := hid hg2
        clear hg2
        go_wp2_with fail
        go_roundw
        case rel => exact ⟨j + 1, by omega, by go_num, by rw [HJ.out], grown_trans HG.out (grown_trans (grown_alloc (grown_refl _ _) _) HG2.out)⟩
        case measure => simp [intOf]; omega
      · clear hg
        go_wp2
        go_ret2
        have e : F.take j = F := List.take_of_length_le (by omega)
        rw [e]
        exact ⟨rfl, grown_trans HG1.out HG.out⟩

end Go.Proofs.Ythlhbjnkohinmaa
