import Derived.Test.YthlhbjnkohinmaaGreatPart05
import Derived.Test.YthlhbjnkohinmaaGreatOwn
import Derived.Deep.AppendLies
/- The program's engine in memory: View. -/
namespace Go.Proofs.YthlhbjnkohinmaaGreat
open Go.RowKit

theorem PAt.grown {w w' : World} {x : Nat} {X : PEng} {kv : Nat → Value} (h : PAt w x X kv) (hg : w.grownBy w' none) : PAt w' x X kv := by
  obtain ⟨cs, hb⟩ := h.block
  refine ⟨⟨cs, (hg.block x (lt_of_block hb) (by simp)).trans hb⟩, grown_cell hg h.rules, grown_cell hg h.room, grown_cell hg h.opened, fun k hk => ?_, ⟨grown_cell hg h.store.latest, fun c hc => grown_cell hg (h.store.last c hc), fun c hc => grown_cell hg (h.store.kept c hc)⟩⟩
  have := h.ses k hk
  exact ⟨grown_cell hg this.num, grown_cell hg this.snap, grown_cell hg this.cnt, fun c hc => grown_cell hg (this.made c hc), fun c hc => grown_cell hg (this.filled c hc), fun c hc => grown_cell hg (this.val c hc), fun c hc => grown_cell hg (this.tm c hc), grown_cell hg this.mks, this.ok⟩

theorem there_blk {w : World} {g n : Nat} {cs : Array Value} {t : TypeId} (hn : cs.size = n) (hb : w.heap[g]? = some (.cells cs t (0, 0))) : w.there g 0 n := fun j hj => by
  refine ⟨?_, frozen_blk hb _⟩
  rw [cell_of_row _ _ _ _ _ _ hb, Array.getElem?_eq_getElem (by omega)]
  rfl
theorem cell_setCells_ne {w : World} {b o x i : Nat} {vs : List Value} (h : x ≠ b) : (w.setCells b o vs).cell? ⟨x, i, none⟩ = w.cell? ⟨x, i, none⟩ := World.cell?_setCells_out b vs o w ⟨x, i, none⟩ (fun hb _ => absurd hb h)
theorem grown_setCells {w : World} {r : Option Nat} {b : Nat} (hb : w.heap.size ≤ b) : ∀ (vs : List Value) (o : Nat) {w' : World}, w.grownBy w' r → w.grownBy (w'.setCells b o vs) r
  | [], _, _, h => h
  | v :: vs, o, _, h => grown_setCells hb vs (o + 1) (grown_set h (.inr hb) v)
theorem there_new (w : World) {n : Nat} {cs : Array Value} {t : TypeId} (hn : cs.size = n) : (w.alloc (.cells cs t)).there w.heap.size 0 n := there_blk hn (heap_alloc_new w _)

/-- The facts that the session in a place sees. -/
def sawX (X : PEng) (k : Nat) : List PFact := sawN (X.ses k) (fun c => histV (X.hist c) (X.ses k).snap) 60
/-- Values are digits. -/
def Digs (g : Nat → Option Int) : Prop := ∀ c v, c < 60 → g c = some v → 0 ≤ v ∧ v ≤ 9
theorem seenT_one (X : PEng) (k c : Nat) : (seenT (X.ses k) (fun c => histV (X.hist c) (X.ses k).snap) c).map (·.1) = seenP X k c := by
  unfold seenT seenP
  cases h : (X.ses k).wr c with
  | none => simp [histV_two, Function.comp_def]
  | some v => simp [Function.comp_def]
theorem sawX_mem {X : PEng} {k : Nat} {q : PFact} (h : q ∈ sawX X k) : q.1 < 60 ∧ seenP X k q.1 = some q.2.1 := by
  unfold sawX sawN at h
  obtain ⟨c, hc, hm⟩ := List.mem_filterMap.mp h
  cases hs : seenT (X.ses k) (fun c => histV (X.hist c) (X.ses k).snap) c with
  | none => rw [hs] at hm; cases hm
  | some p =>
    rw [hs] at hm
    simp only [Option.map_some, Option.some.injEq] at hm
    rw [← hm]
    have := seenT_one X k c
    rw [hs] at this
    exact ⟨by simpa using hc, this.symm⟩
theorem viewP_saw (X : PEng) (k : Nat) : viewP X k = joined ((sawX X k).map fun q => factP q.1 q.2.1) := by
  unfold viewP sawX sawN
  rw [List.map_filterMap]
  congr 2
  funext c
  rw [← seenT_one X k c]
  cases seenT (X.ses k) (fun c => histV (X.hist c) (X.ses k).snap) c <;> rfl
theorem sawX_le (X : PEng) (k : Nat) : (sawX X k).length ≤ 60 := sawN_le _ _ _

set_option maxRecDepth 20000 in
set_option maxHeartbeats 2000000 in
theorem pseen_any (x : Nat) (X : PEng) (kv : Nat → Value) (k : Nat) (w : World) (hk : k < 8) (h : PAt w x X kv) (hR : HRows w X kv) (hl : ∀ c, c < 60 → (X.hist c).length ≤ 9223372036854775807) :
    Calls Tryz.prog 49 #[.pointer (some ⟨x, 0, none⟩), .pointer (some ⟨x, 3 + k * 244, none⟩)] w fun e w' => ∃ v, e = .returned v ∧ w'.ownsRow w.heap.size 114 4 v (sawX X k).length (fcCells (sawX X k)) ∧ w.grownBy w' none := by
  have c1 := (h.ses k hk).snap
  have hxl := h.lt
  obtain ⟨sn, hsn⟩ : ∃ sn, sn = (X.ses k).snap := ⟨_, rfl⟩
  rw [← hsn] at c1
  have HAT : Hid (∀ W, w.grownBy W none → Calls Tryz.prog 65 #[.pointer (some ⟨x, 1955, none⟩), .int .i64 sn] W fun e w' => (∃ sc, e = .returned (.agg sc) ∧ StArr sc 60 (fun c => histV (X.hist c) sn)) ∧ W.grownBy w' none) := hid (fun W hg => sat_any x 1955 X kv sn W (h.grown hg).store (fun c hc => ownsRow_grown hg (hR c hc)) hl)
  have HSV : Hid (∀ W sc, w.grownBy W none → StArr sc 60 (fun c => histV (X.hist c) sn) → Calls Tryz.prog 83 #[.pointer (some ⟨x, 3 + k * 244, none⟩), .agg sc] W fun e w' => ∃ v, e = .returned v ∧ w'.ownsRow w.heap.size 114 4 v (sawX X k).length (fcCells (sawX X k)) ∧ W.grownBy w' none) := hid (fun W sc hg hsc => by
    have := ssees_any x (3 + k * 244) (X.ses k) (fun c => histV (X.hist c) sn) sc W ((h.grown hg).ses k hk) hsc
    rw [hsn] at this
    refine this.mono ?_
    rintro e w' ⟨v, rfl, ho, hg'⟩
    exact ⟨v, rfl, own_mono ho hg.size, hg'⟩)
  obtain ⟨hz, hzs⟩ := zero_of_info Tryz.zinfo139
  obtain ⟨z, hzz⟩ : ∃ z, z = zeroStates := ⟨_, rfl⟩
  have hzsz : Hid (z.size = 180) := hid (by rw [hzz]; exact zeroStates_size)
  rw [← hzz] at hz
  have HZS := hid hzs
  clear h hR hl hzz hzs hsn
  have hxz : x ≠ w.heap.size := by omega
  obtain ⟨F, hF⟩ : ∃ F, F = sawX X k := ⟨_, rfl⟩
  rw [← hF] at HSV ⊢
  clear hF
  go_enter Tryz.func49, Tryz.ntmps49
  go_wp2_with fail
  have hne := World.new_ne w ⟨x, 3 + k * 244 + 1, none⟩ c1
  go_region_held3 (fun W => W.cell? ⟨x, 3 + k * 244 + 1, none⟩ = some (.int .i64 sn)) (first | go_keep | (exact grown_cell hg1 (by assumption)) | (rw [cell_setCells_ne (by first | exact hxn1 | exact hxz)]; assumption)) (first
    | (go_at_call 65
       refine (HAT.out _ (by first | exact grown_drewN (grown_refl _ _) 1 | exact grown_drewN (grown_alloc (grown_refl _ _) _) 1 | exact grown_alloc (grown_drewN (grown_refl _ _) 1) _)).mono ?_
       rintro e w1 ⟨⟨sc, rfl, hsc⟩, hg1⟩
       obtain ⟨cl, rfl⟩ : ∃ cl : List Value, sc = cl.toArray := ⟨sc.toList, by simp⟩
       have HSC := hid hsc
       have hcl : cl.length = 180 := by have := hsc.size; simpa using this
       have hinf : (Tryz.prog.info? 139).map (·.size) = some cl.length := HZS.out.trans (by rw [hcl])
       have hone : ∀ v ∈ cl, v.oneCell' = true := fun v hv => Array.all_eq_true_iff_forall_mem.1 hsc.one v (by simpa using hv)
       clear hsc
       have hxn1 : x ≠ w1.heap.size := by have := hg1.size; simp at this; omega
       have HthA : (w1.alloc (.cells z 139)).there w1.heap.size 0 180 := there_new w1 hzsz.out
       try (have HthB : w1.there w.heap.size 0 180 := there_blk hzsz.out ((hg1.block w.heap.size (by simp) (by simp)).trans (heap_alloc_new _ _)))))
  · have HR2 := hid (World.rangeAt_setCells_same _ w1.heap.size 0 cl (by rw [hcl]; exact HthA))
    have HG2 : Hid (w.grownBy ((w1.alloc (.cells z 139)).setCells w1.heap.size 0 cl) none) := hid (grown_setCells (by have := hg1.size; simpa using this) _ _ (grown_alloc (grown_undrew (n := 1) hg1) _))
    clear HthA hg1
    generalize (w1.alloc (.cells z 139)).setCells w1.heap.size 0 cl = W2 at HR2 HG2 ⊢
    go_wp2_with (refine wpList_load_mid rfl 139 (.tmp 5) rfl w1.heap.size 0 rfl cl _ HR2.out Tryz.underlying139 rfl hinf ?_)
    go_at_call 83
    refine (HSV.out _ _ HG2.out HSC.out).mono ?_
    rintro e w3 ⟨v, rfl, hown, hg3⟩
    have HG3 := hid hg3
    have HOW := hid hown
    clear hg3 hown
    go_wp2
    go_ret
    exact ⟨v, rfl, HOW.out, grown_trans HG2.out HG3.out⟩
  · have HR2 := hid (World.rangeAt_setCells_same _ w.heap.size 0 cl (by rw [hcl]; exact HthB))
    have HG2 : Hid (w.grownBy (w1.setCells w.heap.size 0 cl) none) := hid (grown_setCells (Nat.le_refl _) _ _ (grown_trans (by first | exact grown_drewN (grown_alloc (grown_refl _ _) _) 1 | exact grown_alloc (grown_drewN (grown_refl _ _) 1) _) hg1))
    clear HthA HthB hg1
    generalize w1.setCells w.heap.size 0 cl = W2 at HR2 HG2 ⊢
    go_wp2_with (refine wpList_load_mid rfl 139 (.tmp 5) rfl w.heap.size 0 rfl cl _ HR2.out Tryz.underlying139 rfl hinf ?_)
    go_at_call 83
    refine (HSV.out _ _ HG2.out HSC.out).mono ?_
    rintro e w3 ⟨v, rfl, hown, hg3⟩
    have HG3 := hid hg3
    have HOW := hid hown
    clear hg3 hown
    go_wp2
    go_ret
    exact ⟨v, rfl, HOW.out, grown_trans HG2.out HG3.out⟩

theorem joined_take (F : List PFact) (j : Nat) (hj : j < F.length) : joined ((F.take (j + 1)).map fun q => factP q.1 q.2.1) = joined ((F.take j).map fun q => factP q.1 q.2.1) ++ factP F[j].1 F[j].2.1 := by
  rw [List.take_succ_eq_append_getElem hj, List.map_append]
  exact joined_snoc _ _
theorem joined_facts_size (F : List PFact) : (joined (F.map fun q => factP q.1 q.2.1)).size = 3 * F.length := by
  have key : ∀ (l : List PFact) (z : ByteArray), ((l.map fun q => factP q.1 q.2.1).foldl (· ++ ·) z).size = z.size + 3 * l.length := by
    intro l
    induction l with
    | nil => intro z; simp
    | cons q l ih =>
      intro z
      rw [List.map_cons, List.foldl_cons, ih, ByteArray.size_append, size_factP]
      simp
      omega
  have := key F ByteArray.empty
  unfold joined
  rw [this]
  simp

set_option maxRecDepth 20000 in
set_option maxHeartbeats 2000000 in
theorem pview_any (x : Nat) (X : PEng) (kv : Nat → Value) (n : Int) (w : World) (h : PAt w x X kv) (hR : HRows w X kv) (hl : ∀ c, c < 60 → (X.hist c).length ≤ 9223372036854775807) (hd : ∀ k, findP X n = some k → Digs (seenP X k)) :
    Calls Tryz.prog 25 #[.pointer (some ⟨x, 0, none⟩), .int .i64 n] w fun e w' => e = .returned (.tuple #[.string (pviewF X n).1, .int .i64 (pviewF X n).2]) ∧ w.grownBy w' none := by
  have HF := hid (findp_any x X n w h.ses)
  unfold pviewF
  cases hf : findP X n with
  | none =>
    rw [hf] at HF
    clear h hf hR hl hd
    go_enter Tryz.func25, Tryz.ntmps25
    go_wp2_with fail
    go_at_call 41
    refine HF.out.mono ?_
    rintro e w' ⟨rfl, rfl⟩
    simp only [placeV]
    go_wp2
    go_ret2
    exact ⟨rfl, grown_refl _ _⟩
  | some k =>
    rw [hf] at HF
    have hk : k < 8 := by
      unfold findP at hf
      split at hf
      · cases hf
      · exact (numberedP_some hf).1
    simp only []
    have HSE := hid (pseen_any x X kv k w hk h hR hl)
    have HD : Hid (∀ q ∈ sawX X k, q.1 < 60 ∧ 0 ≤ q.2.1 ∧ q.2.1 ≤ 9) := hid (fun q hq => ⟨(sawX_mem hq).1, hd k hf q.1 q.2.1 (sawX_mem hq).1 (sawX_mem hq).2⟩)
    have hFl := sawX_le X k
    rw [viewP_saw]
    obtain ⟨F, hF⟩ : ∃ F, F = sawX X k := ⟨_, rfl⟩
    rw [← hF] at HSE HD hFl ⊢
    clear h hf hR hl hd hF
    go_enter Tryz.func25, Tryz.ntmps25
    go_wp2_with fail
    go_at_call 41
    refine HF.out.mono ?_
    rintro e w' ⟨rfl, rfl⟩
    simp only [placeV]
    go_wp2_with fail
    go_at_call 49
    refine HSE.out.mono ?_
    rintro e w1 ⟨v, rfl, hown, hg1⟩
    obtain ⟨a, m, c, rfl⟩ := own_slice hown
    have em := own_len hown
    subst em
    have HG1 := hid hg1
    have HOW := hid hown
    clear HSE hg1 hown HF
    go_wp2_with fail
    go_loopw [8, 21] (fun t i wr => ∃ j : Nat, j ≤ F.length ∧ i = .int .i64 j ∧ t = .string (joined ((F.take j).map fun q => factP q.1 q.2.1)) ∧ w1.grownBy wr none) (fun _ i _ => F.length - (intOf i).toNat)
    case atStart => exact ⟨0, Nat.zero_le _, rfl, rfl, grown_refl _ _⟩
    case round =>
      obtain ⟨j, hj, rfl, rfl, hg⟩ := hrel
      have HG := hid hg
      by_cases hlt : j < F.length
      · have how := own_kept HOW.out hg (fun g hg => by cases hg)
        obtain ⟨g, rfl, _, hgb, hgl, hcell⟩ := own_cell how (by omega)
        obtain ⟨a0, a1, a2, a3⟩ := fcCells_at F j hlt
        have d0 := hcell _ _ a0
        have d1 := hcell _ _ a1
        have d2 := hcell _ _ a2
        have d3 := hcell _ _ a3
        obtain ⟨hb1, hb2, hb3⟩ := HD.out F[j] (List.getElem_mem hlt)
        have HTX := hid (fun W => facttext_any F[j].1 F[j].2.1 F[j].2.2 W hb1 hb2 hb3)
        unfold factV at HTX
        have HJ := hid (joined_take F j hlt)
        have hjs : (joined ((F.take j).map fun q => factP q.1 q.2.1)).size ≤ 180 := by rw [joined_facts_size]; simp; omega
        have hfz := size_factP F[j].1 F[j].2.1
        obtain ⟨jt, hjt⟩ : ∃ jt, jt = joined ((F.take j).map fun q => factP q.1 q.2.1) := ⟨_, rfl⟩
        obtain ⟨ft, hft⟩ : ∃ ft, ft = factP F[j].1 F[j].2.1 := ⟨_, rfl⟩
        rw [← hjt] at hjs HJ ⊢
        rw [← hft] at hfz HJ HTX
        have hgz : g ≠ wr.heap.size := by omega
        obtain ⟨c0, hc0⟩ : ∃ c0, c0 = F[j].1 := ⟨_, rfl⟩
        obtain ⟨v0, hv0⟩ : ∃ v0, v0 = F[j].2.1 := ⟨_, rfl⟩
        obtain ⟨t0, ht0⟩ : ∃ t0, t0 = F[j].2.2 := ⟨_, rfl⟩
        rw [← hc0] at d0 d1
        rw [← hv0] at d2
        rw [← ht0] at d3
        simp only [] at HTX
        rw [← hc0, ← hv0, ← ht0] at HTX
        clear hjt hft hcell a0 a1 a2 a3 hb1 hb2 hb3 hc0 hv0 ht0 how hg
        go_wp2_with fail
        go_at_call 50
        refine (HTX.out _).mono ?_
        rintro e w2 ⟨rfl, hg2⟩
        have HG2 := hid hg2
        clear hg2
        go_wp2_with fail
        go_roundw
        case rel => exact ⟨j + 1, by omega, by go_num, by rw [HJ.out], grown_trans HG.out (grown_trans (grown_alloc (grown_refl _ _) _) HG2.out)⟩
        case measure => simp [intOf]; omega
      · clear hg
        go_wp2
        go_ret2
        have e : F.take j = F := List.take_of_length_le (by omega)
        rw [e]
        exact ⟨rfl, grown_trans HG1.out HG.out⟩

end Go.Proofs.YthlhbjnkohinmaaGreat

/- The program's engine in memory: a session laid whole; Abort. -/
namespace Go.Proofs.YthlhbjnkohinmaaGreat
open Go.RowKit

theorem flat4_len {α : Type} {f : Nat → List α} (hf : ∀ c, (f c).length = 4) : ∀ n, ((List.range n).flatMap f).length = n * 4
  | 0 => rfl
  | n + 1 => by rw [List.range_succ, List.flatMap_append, List.length_append, flat4_len hf n]; simp [hf]; omega
theorem flat4_at {α : Type} {f : Nat → List α} (hf : ∀ c, (f c).length = 4) {c j : Nat} (hj : j < 4) : ∀ n, c < n → ((List.range n).flatMap f)[c * 4 + j]? = (f c)[j]?
  | 0, h => by omega
  | n + 1, h => by
    rw [List.range_succ, List.flatMap_append]
    by_cases e : c = n
    · subst e
      rw [List.getElem?_append_right (by rw [flat4_len hf]; omega), flat4_len hf]
      simp
    · rw [List.getElem?_append_left (by rw [flat4_len hf]; omega)]
      exact flat4_at hf hj n (by omega)

/-- The cells of writes, and of a session. -/
def wrsCells (wr : Nat → PW) (tm : Nat → Int) : List Value := (List.range 60).flatMap fun c => [.bool (wMade (wr c)), .bool (wFilled (wr c)), .int .i64 (wVal (wr c)), .int .i64 (tm c)]
def sesCells (S : PSes) : List Value := .int .i64 S.num :: .int .i64 S.snap :: .int .i64 S.made :: (wrsCells S.wr S.tm ++ [mkV S.mks])
theorem wrsCells_len (wr : Nat → PW) (tm : Nat → Int) : (wrsCells wr tm).length = 240 := flat4_len (fun _ => rfl) 60
theorem sesCells_len (S : PSes) : (sesCells S).length = 244 := by simp [sesCells, wrsCells_len]
theorem wrsCells_at (wr : Nat → PW) (tm : Nat → Int) {c : Nat} (hc : c < 60) : (wrsCells wr tm)[c * 4]? = some (.bool (wMade (wr c))) ∧ (wrsCells wr tm)[c * 4 + 1]? = some (.bool (wFilled (wr c))) ∧ (wrsCells wr tm)[c * 4 + 2]? = some (.int .i64 (wVal (wr c))) ∧ (wrsCells wr tm)[c * 4 + 3]? = some (.int .i64 (tm c)) :=
  ⟨flat4_at (j := 0) (fun _ => rfl) (by omega) 60 hc, flat4_at (j := 1) (fun _ => rfl) (by omega) 60 hc, flat4_at (j := 2) (fun _ => rfl) (by omega) 60 hc, flat4_at (j := 3) (fun _ => rfl) (by omega) 60 hc⟩
theorem wrsCells_one (wr : Nat → PW) (tm : Nat → Int) : ∀ v ∈ wrsCells wr tm, v.oneCell' = true := by
  intro v hv
  unfold wrsCells at hv
  rw [List.mem_flatMap] at hv
  obtain ⟨c, _, h⟩ := hv
  simp at h
  rcases h with rfl | rfl | rfl | rfl <;> rfl
theorem sesCells_one (S : PSes) : ∀ v ∈ sesCells S, v.oneCell' = true := by
  intro v hv
  unfold sesCells at hv
  simp only [List.mem_cons, List.mem_append, List.not_mem_nil, or_false] at hv
  rcases hv with rfl | rfl | rfl | hv | rfl
  · rfl
  · rfl
  · rfl
  · exact wrsCells_one _ _ v hv
  · cases S.mks <;> rfl

/-- The writes of a session lie in block b from o on. -/
theorem SesAt.writes {w : World} {b o : Nat} {S : PSes} (h : SesAt w b o S) : w.rangeAt b (o + 3) (wrsCells S.wr S.tm) := by
  intro j v hv
  have hj : j < 240 := by
    have := (List.getElem?_eq_some_iff.1 hv).1
    rw [wrsCells_len] at this
    exact this
  obtain ⟨a0, a1, a2, a3⟩ := wrsCells_at S.wr S.tm (c := j / 4) (by omega)
  have e : j = j / 4 * 4 ∨ j = j / 4 * 4 + 1 ∨ j = j / 4 * 4 + 2 ∨ j = j / 4 * 4 + 3 := by omega
  rcases e with e | e | e | e
  · rw [e, a0] at hv
    rw [e, ← hv]
    exact h.made (j / 4) (by omega)
  · rw [e, a1] at hv
    rw [e, ← hv]
    exact h.filled (j / 4) (by omega)
  · rw [e, a2] at hv
    rw [e, ← hv]
    exact h.val (j / 4) (by omega)
  · rw [e, a3] at hv
    rw [e, ← hv]
    exact h.tm (j / 4) (by omega)
theorem SesAt.range {w : World} {b o : Nat} {S : PSes} (h : SesAt w b o S) : w.rangeAt b o (sesCells S) := by
  intro j v hv
  match j, hv with
  | 0, hv =>
    simp [sesCells] at hv
    rw [← hv]
    exact h.num
  | 1, hv =>
    simp [sesCells] at hv
    rw [← hv]
    exact h.snap
  | 2, hv =>
    simp [sesCells] at hv
    rw [← hv]
    exact h.cnt
  | j + 3, hv =>
    have hv' : (wrsCells S.wr S.tm ++ [mkV S.mks])[j]? = some v := by simpa only [sesCells, List.getElem?_cons_succ] using hv
    rw [show o + (j + 3) = o + 3 + j by omega]
    by_cases hj : j < 240
    · rw [List.getElem?_append_left (by rw [wrsCells_len]; exact hj)] at hv'
      exact h.writes j v hv'
    · rw [List.getElem?_append_right (by rw [wrsCells_len]; omega), wrsCells_len] at hv'
      have e : j = 240 := by
        have := (List.getElem?_eq_some_iff.1 hv').1
        simp at this
        omega
      subst e
      simp at hv'
      rw [← hv']
      exact h.mks
theorem SesAt.of {w : World} {b o : Nat} {S : PSes} (h : w.rangeAt b o (sesCells S)) (hk : S.ok) : SesAt w b o S := by
  have hw : ∀ j v, (wrsCells S.wr S.tm)[j]? = some v → w.cell? ⟨b, o + 3 + j, none⟩ = some v := fun j v hv => by
    have hj : j < (wrsCells S.wr S.tm).length := (List.getElem?_eq_some_iff.1 hv).1
    have := h (j + 3) v (by
      show (wrsCells S.wr S.tm ++ [mkV S.mks])[j]? = some v
      rw [List.getElem?_append_left hj]
      exact hv)
    rw [show o + (j + 3) = o + 3 + j by omega] at this
    exact this
  exact ⟨h 0 _ rfl, h 1 _ rfl, h 2 _ rfl, fun c hc => hw _ _ (wrsCells_at S.wr S.tm hc).1, fun c hc => hw _ _ (wrsCells_at S.wr S.tm hc).2.1, fun c hc => hw _ _ (wrsCells_at S.wr S.tm hc).2.2.1, fun c hc => hw _ _ (wrsCells_at S.wr S.tm hc).2.2.2, h 243 _ (by
    show (wrsCells S.wr S.tm ++ [mkV S.mks])[240]? = some (mkV S.mks)
    rw [List.getElem?_append_right (by rw [wrsCells_len]; omega), wrsCells_len]
    rfl), hk⟩
theorem ok_new (n t : Int) : (PSes.new n t).ok := ⟨Int.le_refl 0, rfl⟩
theorem ok_zero : PSes.zero.ok := ⟨Int.le_refl 0, rfl⟩

theorem Chg.setCells {w : World} {b a n : Nat} : ∀ (vs : List Value) (o : Nat) {w' : World}, a ≤ o → o + vs.length ≤ a + n → Chg w w' b a n → Chg w (w'.setCells b o vs) b a n
  | [], _, _, _, _, h => h
  | v :: vs, o, _, h1, h2, h => Chg.setCells vs (o + 1) (by omega) (by simp at h2; omega) (h.set h1 (by simp at h2; omega) v)

/-- A place of the engine may be written. -/
theorem PAt.there {w : World} {x : Nat} {X : PEng} {kv : Nat → Value} (h : PAt w x X kv) {k : Nat} (hk : k < 8) : w.there x (3 + k * 244) 244 := by
  intro j hj
  obtain ⟨cs, hb⟩ := h.block
  refine ⟨?_, frozen_blk hb _⟩
  exact World.rangeAt.isSome (h.ses k hk).range j (by rw [sesCells_len]; exact hj)
/-- A session is laid into a place. -/
theorem PAt.lay {w : World} {x : Nat} {X : PEng} {kv : Nat → Value} (h : PAt w x X kv) {k : Nat} (hk : k < 8) (S' : PSes) (hk' : S'.ok) : PAt (w.setCells x (3 + k * 244) (sesCells S')) x (X.setSes k S') kv ∧ Fr [x] w (w.setCells x (3 + k * 244) (sesCells S')) := by
  have hc : Chg w (w.setCells x (3 + k * 244) (sesCells S')) x (3 + k * 244) 244 := Chg.setCells _ _ (Nat.le_refl _) (by rw [sesCells_len]; omega) (Chg.refl _ _ _ _)
  exact ⟨h.setSes hk (.of (World.rangeAt_setCells_same _ _ _ _ (by rw [sesCells_len]; exact h.there hk)) hk') hc, hc.fr⟩

theorem zero_ses : Tryz.zeroCells82.toList = sesCells .zero := by kernel_rfl
theorem info_ses : (Tryz.prog.info? 82).map (·.size) = some 244 := by kernel_rfl

/-- Cells are stored into the midst of a block. -/
theorem run_storeCells_mid {P : Program} (w : World) (b o : Nat) (cs : List Value) (ht : w.there b o cs.length) (h1 : ∀ v ∈ cs, v.oneCell' = true) : (storeCells ⟨b, o, none⟩ cs 0).run P w = .ok () (w.setCells b o cs) := by
  have := run_storeCells_cells (P := P) b o cs 0 w (fun j hj => by simpa using (ht j hj).1) (fun j hj => by simpa using (ht j hj).2) h1
  simpa using this

set_option maxRecDepth 20000 in
set_option maxHeartbeats 1000000 in
theorem pabort_any (x : Nat) (X : PEng) (kv : Nat → Value) (n : Int) (w : World) (h : PAt w x X kv) :
    Calls Tryz.prog 27 #[.pointer (some ⟨x, 0, none⟩), .int .i64 n] w fun e w' => e = .returned (.int .i64 (pabortF X n).1) ∧ PNext x (pabortF X n).2 kv w w' := by
  have HF := hid (findp_any x X n w h.ses)
  have HP := hid h
  unfold pabortF
  cases hf : findP X n with
  | none =>
    rw [hf] at HF
    clear h hf
    go_enter Tryz.func27, Tryz.ntmps27
    go_wp2_with fail
    go_at_call 41
    refine HF.out.mono ?_
    rintro e w' ⟨rfl, rfl⟩
    simp only [placeV]
    go_wp2
    go_ret
    exact ⟨rfl, PNext.same HP.out⟩
  | some k =>
    rw [hf] at HF
    have hk : k < 8 := by
      unfold findP at hf
      split at hf
      · cases hf
      · exact (numberedP_some hf).1
    simp only []
    have HL := hid (h.lay hk .zero ok_zero)
    have hst := run_storeCells_mid (P := Tryz.prog) w x (3 + k * 244) Tryz.zeroCells82.toList (by rw [zero_ses, sesCells_len]; exact h.there hk) (by rw [zero_ses]; exact sesCells_one _)
    rw [← zero_ses] at HL
    clear h hf
    go_enter Tryz.func27, Tryz.ntmps27
    go_wp2_with fail
    go_at_call 41
    refine HF.out.mono ?_
    rintro e w' ⟨rfl, rfl⟩
    simp only [placeV]
    go_wp2_with fail
    go_ret
    exact ⟨rfl, HL.out⟩

end Go.Proofs.YthlhbjnkohinmaaGreat

/- The program's engine in memory: Open. -/
namespace Go.Proofs.YthlhbjnkohinmaaGreat
open Go.RowKit

set_option maxRecDepth 20000 in
set_option maxHeartbeats 1000000 in
theorem popen_any (x : Nat) (X : PEng) (kv : Nat → Value) (w : World) (h : PAt w x X kv) (ho : 0 ≤ X.opened ∧ X.opened < 9223372036854775807) :
    Calls Tryz.prog 19 #[.pointer (some ⟨x, 0, none⟩)] w fun e w' => e = .returned (.tuple #[.int .i64 (popenF X).1.1, .int .i64 (popenF X).1.2]) ∧ PNext x (popenF X).2 kv w w' := by
  have HF := hid (numbered_any x X 0 w h.ses)
  have HP := hid h
  unfold popenF
  cases hf : numberedP X 0 with
  | none =>
    rw [hf] at HF
    clear h hf ho
    go_enter Tryz.func19, Tryz.ntmps19
    go_wp2_with fail
    go_at_call 40
    refine HF.out.mono ?_
    rintro e w' ⟨rfl, rfl⟩
    simp only [placeV]
    go_wp2
    go_ret2
    exact ⟨rfl, PNext.same HP.out⟩
  | some k =>
    rw [hf] at HF
    have hk : k < 8 := (numberedP_some hf).1
    simp only []
    obtain ⟨cs, hb⟩ := h.block
    have c2 := h.opened
    have z2 := frozen_blk hb 2
    have c3 := h.store.latest
    have hch : Chg w (w.setCell ⟨x, 2, none⟩ (.int .i64 (X.opened + 1))).drew x 2 1 := ((Chg.refl w x 2 1).set (by omega) (by omega) _).drewN 1
    have hP1 : PAt (w.setCell ⟨x, 2, none⟩ (.int .i64 (X.opened + 1))).drew x { X with opened := X.opened + 1 } kv := by
      refine ⟨hch.blk hb, (hch.cell _ (by omega)).trans h.rules, (hch.cell _ (by omega)).trans h.room, ?_, fun j hj => (h.ses j hj).other hch (by omega), ?_⟩
      · show World.cell? (World.setCell _ _ _) _ = _
        rw [World.cell?_setCell_same _ _ _ h.opened]
      · have := h.store.other hch (by omega)
        exact ⟨this.latest, this.last, this.kept⟩
    have hL : (Tryz.zeroCells82.toList.set 0 (.int .i64 (X.opened + 1))).set 1 (.int .i64 X.latest) = sesCells (.new (X.opened + 1) X.latest) := by rw [zero_ses]; rfl
    have hlay := hP1.lay hk (.new (X.opened + 1) X.latest) (ok_new _ _)
    have hst := run_storeCells_mid (P := Tryz.prog) (w.setCell ⟨x, 2, none⟩ (.int .i64 (X.opened + 1))).drew x (3 + k * 244) ((Tryz.zeroCells82.toList.set 0 (.int .i64 (X.opened + 1))).set 1 (.int .i64 X.latest)) (by rw [hL, sesCells_len]; exact hP1.there hk) (by rw [hL]; exact sesCells_one _)
    have c4 : ((w.setCell ⟨x, 2, none⟩ (.int .i64 (X.opened + 1))).drew.setCells x (3 + k * 244) ((Tryz.zeroCells82.toList.set 0 (.int .i64 (X.opened + 1))).set 1 (.int .i64 X.latest))).cell? ⟨x, 2, none⟩ = some (.int .i64 (X.opened + 1)) := by rw [hL]; exact hlay.1.opened
    rw [← hL] at hlay
    have HL : Hid (PNext x { X with opened := X.opened + 1, ses := upd X.ses k (.new (X.opened + 1) X.latest) } kv w ((w.setCell ⟨x, 2, none⟩ (.int .i64 (X.opened + 1))).drew.setCells x (3 + k * 244) ((Tryz.zeroCells82.toList.set 0 (.int .i64 (X.opened + 1))).set 1 (.int .i64 X.latest)))) := hid ⟨hlay.1, hch.fr.trans hlay.2⟩
    clear hlay hL hP1 hch
    obtain ⟨op, hop⟩ : ∃ op, op = X.opened := ⟨_, rfl⟩
    obtain ⟨lt, hlt⟩ : ∃ lt, lt = X.latest := ⟨_, rfl⟩
    rw [← hop] at c2 ho hst c4 HL ⊢
    rw [← hlt] at c3 hst c4 HL ⊢
    obtain ⟨ho1, ho2⟩ := ho
    clear h hf hb hop hlt
    go_enter Tryz.func19, Tryz.ntmps19
    go_wp2_with fail
    go_at_call 40
    refine HF.out.mono ?_
    rintro e w' ⟨rfl, rfl⟩
    simp only [placeV]
    go_wp2_with fail
    go_region
    all_goals go_wp2_with fail
    all_goals go_ret2
    all_goals exact ⟨rfl, HL.out⟩

end Go.Proofs.YthlhbjnkohinmaaGreat

/- The program's engine in memory, with the blocks that it takes. -/
namespace Go.Proofs.YthlhbjnkohinmaaGreat
open Go.RowKit

/-- The versions of a cell. -/
def HistA (v : Value) (h : List (Int × Option Int)) : Asn := RowA 138 3 v h.length (hvCells h)
theorem HistA.framed (v : Value) (h : List (Int × Option Int)) : Framed (HistA v h) := RowA.framed _ _ _ _ _
theorem HistA.within (v : Value) (h : List (Int × Option Int)) : Within (HistA v h) := RowA.within _ _ _ _ _
/-- The program's engine in block x, with the rows of its versions. -/
def PEngK (kv : Nat → Value) (x : Nat) (X : PEng) : Asn := fun w f => PAt w x X kv ∧ ∃ f2, EachA HistA ((List.range 60).map kv) ((List.range 60).map X.hist) w f2 ∧ f = x :: f2
def PEngA (x : Nat) (X : PEng) : Asn := fun w f => ∃ kv, PEngK kv x X w f
theorem cell_fr {w w' : World} {S : List Nat} (h : Fr S w w') {b : Nat} (hb : b < w.heap.size) (hs : b ∉ S) (i : Nat) : w'.cell? ⟨b, i, none⟩ = w.cell? ⟨b, i, none⟩ := by simp only [World.cell?, h.block b hb hs]
theorem PAt.fr {w w' : World} {x : Nat} {X : PEng} {kv : Nat → Value} {S : List Nat} (h : PAt w x X kv) (hf : Fr S w w') (hs : x ∉ S) : PAt w' x X kv := by
  have hl := h.lt
  obtain ⟨cs, hb⟩ := h.block
  have e := cell_fr hf hl hs
  exact ⟨⟨cs, (hf.block x hl hs).trans hb⟩, (e _).trans h.rules, (e _).trans h.room, (e _).trans h.opened, fun k hk => (h.ses k hk).fr hf hl hs, ⟨(e _).trans h.store.latest, fun c hc => (e _).trans (h.store.last c hc), fun c hc => (e _).trans (h.store.kept c hc)⟩⟩
theorem PEngK.framed (kv : Nat → Value) (x : Nat) (X : PEng) : Framed (PEngK kv x X) := by
  rintro S w w' f ⟨h1, f2, h2, rfl⟩ hf hs
  exact ⟨h1.fr hf (hs x (by simp)), f2, EachA.framed HistA.framed _ _ h2 hf (fun g hg => hs g (by simp [hg])), rfl⟩
theorem PEngA.framed (x : Nat) (X : PEng) : Framed (PEngA x X) := by
  rintro S w w' f ⟨kv, h⟩ hf hs
  exact ⟨kv, PEngK.framed kv x X h hf hs⟩
theorem PEngA.within (x : Nat) (X : PEng) : Within (PEngA x X) := by
  rintro w f ⟨kv, h1, f2, h2, rfl⟩ g hg
  rcases List.mem_cons.mp hg with rfl | hg
  · exact h1.lt
  · exact EachA.within HistA.within _ _ h2 g hg
theorem PEngK.rows {kv : Nat → Value} {x : Nat} {X : PEng} {w : World} {f : List Nat} (h : PEngK kv x X w f) : HRows w X kv := by
  obtain ⟨_, f2, h2, _⟩ := h
  intro c hc
  obtain ⟨g, h3, _⟩ := EachA.get h2 c (by simpa using hc) (by simpa using hc)
  simp only [List.getElem_map, List.getElem_range] at h3
  exact h3.1
/-- A thing's place behind a call: its blocks are those that it had, and new ones. -/
def ATo (P : Asn) (f : List Nat) (w w' : World) : Prop := ∃ f', P w' f' ∧ f'.Nodup ∧ (∀ x ∈ f', x ∈ f ∨ w.heap.size ≤ x) ∧ Fr f w w'
/-- The program's engine behind a call that changes its own block alone. -/
theorem PNext.to {x : Nat} {X X' : PEng} {kv : Nat → Value} {w w' : World} {f : List Nat} (h : PEngK kv x X w f) (hn : f.Nodup) (hh : X'.hist = X.hist) (hp : PNext x X' kv w w') : ATo (PEngA x X') f w w' := by
  obtain ⟨h1, f2, h2, rfl⟩ := h
  rw [List.nodup_cons] at hn
  refine ⟨x :: f2, ⟨kv, hp.1, f2, ?_, rfl⟩, by rw [List.nodup_cons]; exact hn, fun k hk => .inl hk, hp.2.mono (fun k hk => .inl (by simp at hk; simp [hk]))⟩
  rw [hh]
  exact EachA.framed HistA.framed _ _ h2 hp.2 (fun k hk hs => by simp at hs; exact hn.1 (hs ▸ hk))
theorem ATo.before {P : Asn} {f : List Nat} {w w0 w' : World} (h : ATo P f w0 w') (hf : Fr [] w w0) : ATo P f w w' := by
  obtain ⟨f', a, n, s, r⟩ := h
  refine ⟨f', a, n, fun k hk => ?_, (hf.mono (fun k hk => by cases hk)).trans r⟩
  rcases s k hk with h | h
  · exact .inl h
  · exact .inr (Nat.le_trans hf.size h)
theorem ATo.after {P : Asn} (hP : Framed P) {f : List Nat} {w w' w2 : World} (h : ATo P f w w') (hf : Fr [] w' w2) : ATo P f w w2 := by
  obtain ⟨f', a, n, s, r⟩ := h
  exact ⟨f', hP a hf (by simp), n, s, r.trans (hf.mono (fun k hk => by cases hk))⟩
theorem keepc {w0 w1 : World} {f : List Nat} (hf : Fr f w0 w1) {b i : Nat} {v : Value} (h : w0.cell? ⟨b, i, none⟩ = some v) (hn : b ∉ f) : w1.cell? ⟨b, i, none⟩ = some v := by
  rw [cell_fr hf (World.block_lt_of_cell? w0 _ h) hn]; exact h
theorem fr_alloc (w : World) (o : Obj) : Fr [] w (w.alloc o) := (Fr.refl [] w).alloc o
theorem fr_drew {w w' : World} (h : Fr [] w w') : Fr [] w w'.drew := h.drewN 1
theorem ATo.refl {x : Nat} {X : PEng} {f : List Nat} {w w' : World} (h : PEngA x X w f) (hn : f.Nodup) (hf : Fr [] w w') : ATo (PEngA x X) f w w' := ⟨f, PEngA.framed _ _ h hf (by simp), hn, fun _ hx => .inl hx, hf.mono (fun k hk => by cases hk)⟩
theorem cell_new {w : World} {cs : Array Value} {t : TypeId} {j : Nat} {v : Value} (h : cs[j]? = some v) : (w.alloc (.cells cs t)).cell? ⟨w.heap.size, j, none⟩ = some v := by rw [cell_of_row _ _ _ _ _ _ (heap_alloc_new w _)]; exact h
theorem keep0 {w w0 : World} (hf : Fr [] w w0) {b i : Nat} {v : Value} (h : w.cell? ⟨b, i, none⟩ = some v) : w0.cell? ⟨b, i, none⟩ = some v := keepc hf h (by simp)

end Go.Proofs.YthlhbjnkohinmaaGreat

/- The program's versions in memory: conflicts, and one version more. -/
namespace Go.Proofs.YthlhbjnkohinmaaGreat
open Go.RowKit

set_option maxRecDepth 20000 in
set_option maxHeartbeats 1000000 in
theorem conflicts_any (b o : Nat) (X : PEng) (kv : Nat → Value) (S : PSes) (w : World) (h : StoreAt w b o X kv) :
    Calls Tryz.prog 54 #[.pointer (some ⟨b, o, none⟩), .agg (wrsCells S.wr S.tm).toArray, .int .i64 S.snap] w fun e w' => e = .returned (.bool (clash X S)) ∧ w.grownBy w' none := by
  have HL := hid h.last
  have hbl : b < w.heap.size := World.block_lt_of_cell? w _ h.latest
  have hbz : b ≠ w.heap.size := by omega
  have HM : Hid (∀ c, c < 60 → (w.alloc (.cells (wrsCells S.wr S.tm).toArray 77)).cell? ⟨w.heap.size, c * 4, none⟩ = some (.bool (wMade (S.wr c)))) := hid (fun c hc => by
    rw [cell_of_row _ _ _ _ _ _ (heap_alloc_new w _)]
    simpa using (wrsCells_at S.wr S.tm hc).1)
  clear h
  obtain ⟨r, hr⟩ : ∃ r, r = clash X S := ⟨_, rfl⟩
  rw [← hr]
  have HR := hid hr
  obtain ⟨sn, hsn⟩ : ∃ sn, sn = S.snap := ⟨_, rfl⟩
  rw [← hsn]
  have HSN := hid hsn
  obtain ⟨ca, hca⟩ : ∃ ca, ca = (wrsCells S.wr S.tm).toArray := ⟨_, rfl⟩
  rw [← hca] at HM ⊢
  clear hr hsn hca
  go_enter Tryz.func54, Tryz.ntmps54
  go_wp2_with fail
  go_loop [7] (fun t => ∃ k : Nat, k ≤ 60 ∧ t = .int .i64 k ∧ ∀ j, j < k → ((S.wr j).isSome && decide (X.last j > sn)) = false) (fun t => 60 - (intOf t).toNat)
  case atStart => exact ⟨0, by omega, rfl, fun j h => by omega⟩
  case round =>
    obtain ⟨k, hk, rfl, hno⟩ := hrel
    have HN := hid hno
    clear hno
    by_cases hlt : k < 60
    · have d0 := HM.out k hlt
      have d1 : w.cell? ⟨b, o + 1 + k * 2, none⟩ = some (.int .i64 (X.last k)) := HL.out k hlt
      obtain ⟨ls, hls⟩ : ∃ ls, ls = X.last k := ⟨_, rfl⟩
      rw [← hls] at d1
      have HLS := hid hls
      clear hls
      cases hm : wMade (S.wr k) with
      | true =>
        rw [hm] at d0
        by_cases hgt : ls > sn
        · have HU : Hid (r = true) := hid (by
            rw [HR.out]
            unfold clash
            rw [List.any_eq_true]
            refine ⟨k, by simpa using hlt, ?_⟩
            have h1 : (S.wr k).isSome = true := hm
            rw [h1, ← HLS.out, ← HSN.out]
            simpa using hgt)
          clear hm
          go_wp2
          go_ret
          exact ⟨by rw [HU.out]; rfl, grown_alloc (grown_refl _ _) _⟩
        · have HN' : Hid (∀ j, j < k + 1 → ((S.wr j).isSome && decide (X.last j > sn)) = false) := hid (by
            intro j hj
            by_cases e : j = k
            · subst e
              rw [← HLS.out]
              simp only [Bool.and_eq_false_iff]
              right
              simpa using hgt
            · exact HN.out j (by omega))
          clear hm
          go_wp2
          go_round
          case rel => exact ⟨k + 1, by omega, by go_num, HN'.out⟩
          case measure => simp [intOf]; omega
      | false =>
        rw [hm] at d0
        have HN' : Hid (∀ j, j < k + 1 → ((S.wr j).isSome && decide (X.last j > sn)) = false) := hid (by
          intro j hj
          by_cases e : j = k
          · subst e
            have h1 : (S.wr j).isSome = false := hm
            rw [h1]; rfl
          · exact HN.out j (by omega))
        clear hm
        go_wp2
        go_round
        case rel => exact ⟨k + 1, by omega, by go_num, HN'.out⟩
        case measure => simp [intOf]; omega
    · have HU : Hid (r = false) := hid (by
        rw [HR.out]
        unfold clash
        rw [List.any_eq_false]
        intro j hj
        have := HN.out j (by have : j < 60 := by simpa using hj
                             omega)
        rw [← HSN.out, this]
        simp)
      go_wp2
      go_ret
      exact ⟨by rw [HU.out]; rfl, grown_alloc (grown_refl _ _) _⟩

theorem Tryz.info138 : (Tryz.prog.info? 138).map (fun i => (i.zero, i.size, i.bytes)) = some (some (.agg #[.int .i64 0, .bool false, .int .i64 0]), 3, 24) := by kernel_rfl

set_option maxRecDepth 20000 in
set_option maxHeartbeats 2000000 in
theorem add_core (b o : Nat) (l : List (Int × Option Int)) (st : Int) (q : Option Int) (a : Option Addr) (cp : Nat) (cs : Array Value) (w : World) (hl : (l.length + 1) * 24 ≤ 140737488355328)
    (hb : w.heap[b]? = some (.cells cs 91 (0, 0))) (ho : o + 1 < cs.size) (hc : cs[o + 1]? = some (.slice a l.length cp)) (hrow : w.ownsRow 0 138 3 (.slice a l.length cp) l.length (hvCells l)) :
    Calls Tryz.prog 86 #[.pointer (some ⟨b, o, none⟩), .agg #[.int .i64 st, .bool q.isSome, .int .i64 (q.getD 0)]] w fun e w' => e = .returned (.tuple #[]) ∧
      ∃ g3 c' w3, ((Value.slice a l.length cp).ownBlock = some g3 ∨ w.heap.size ≤ g3) ∧ w3.ownsRow 0 138 3 (.slice (some ⟨g3, 0, none⟩) (l.length + 1) c') (l.length + 1) (hvCells (l ++ [(st, q)])) ∧ w3.heap[b]? = some (.cells (cs.setIfInBounds o (.int .i64 st)) 91 (0, 0)) ∧
        w' = w3.setCell ⟨b, o + 1, none⟩ (.slice (some ⟨g3, 0, none⟩) (l.length + 1) c') ∧ Fr (b :: (Value.slice a l.length cp).ownBlock.toList) w w3 := by
  obtain ⟨i0, hi0, hz0, hz1, hz2⟩ := info_parts Tryz.info138
  have hbl := lt_of_block hb
  have hbz : b ≠ w.heap.size := by omega
  have hne : (Value.slice a l.length cp).ownBlock ≠ some b := own_ne_ty hrow hb (by decide)
  have k0 : w.cell? ⟨b, o, none⟩ = some (cs[o]'(by omega)) := by rw [cell_of_row _ _ _ _ _ _ hb, Array.getElem?_eq_getElem (by omega)]
  have k1 : w.cell? ⟨b, o + 1, none⟩ = some (.slice a l.length cp) := by rw [cell_of_row _ _ _ _ _ _ hb]; exact hc
  have z0 := frozen_blk hb o
  have z1 := frozen_blk hb (o + 1)
  generalize cs[o]'_ = u0 at k0
  obtain ⟨fl, hfl⟩ : ∃ fl, fl = q.isSome := ⟨_, rfl⟩
  obtain ⟨vl, hvl⟩ : ∃ vl, vl = q.getD 0 := ⟨_, rfl⟩
  have HHV : Hid (hvCells (l ++ [(st, q)]) = hvCells l ++ [.int .i64 st, .bool fl, .int .i64 vl]) := hid (by rw [hvCells_snoc, hfl, hvl])
  rw [← hfl, ← hvl]
  have HB := hid hb
  have hbW : (w.setCell ⟨b, o, none⟩ (.int .i64 st)).heap[b]? = some (.cells (cs.setIfInBounds o (.int .i64 st)) 91 (0, 0)) := blk_setCell hb o _
  have HBW := hid hbW
  have hrow0 : (w.setCell ⟨b, o, none⟩ (.int .i64 st)).ownsRow 0 138 3 (.slice a l.length cp) l.length (hvCells l) := ownsRow_setCell_other hrow hne _
  have hszW : (w.setCell ⟨b, o, none⟩ (.int .i64 st)).heap.size = w.heap.size := by simp [World.setCell]
  have j1 : (w.setCell ⟨b, o, none⟩ (.int .i64 st)).cell? ⟨b, o + 1, none⟩ = some (.slice a l.length cp) := by rw [World.cell?_setCell_other _ _ _ _ (by intro e; simp at e)]; exact k1
  have HFW : Hid (Fr [b] w (w.setCell ⟨b, o, none⟩ (.int .i64 st))) := hid ((Fr.refl [b] w).set (.inl (by simp)) _)
  clear hfl hvl hb hbW hc hrow
  go_enter Tryz.func86, Tryz.ntmps86
  go_wp2_with fail
  generalize w.setCell ⟨b, o, none⟩ (.int .i64 st) = W0 at HBW hrow0 hszW j1 HFW ⊢
  rw [← hszW]
  have hbz0 : b ≠ W0.heap.size := by omega
  have hbz1 : b < W0.heap.size := by omega
  have HSZ := hid hszW
  clear hszW k0 k1 z0 z1 hbl hbz
  go_region_law (
    refine step_append_lies _ rfl (.tmp 13) (.tmp 15) 84 rfl 0 138 i0 (.agg #[.int .i64 0, .bool false, .int .i64 0]) 3 24 Tryz.underlying84 hi0 hz0 hz1 hz2 rfl (by decide) (.slice a l.length cp) l.length (hvCells l) (by simp [Act.eval]) (own_heap ((hrow0.alloc _).alloc _) rfl) ⟨W0.heap.size + 1, 0, none⟩ 1 1 [.int .i64 st, .bool fl, .int .i64 vl] (by simp [Act.eval]) rfl (fun j u hj => by
      have := news_at1 (w := W0.alloc (.cells #[.int .i64 st, .bool fl, .int .i64 vl] 138)) (t := 138) hj
      simpa using this) (fun u hu => by simp at hu; rcases hu with h | h | h <;> subst h <;> rfl) (by decide) (by unfold maxLen; omega) hl (Nat.zero_le _) _ rfl (fun g3 c3 w3 hown3 hg3 hva3 hvl3 => ?_)
    have hb3 : w3.heap[b]? = some (.cells (cs.setIfInBounds o (.int .i64 st)) 91 (0, 0)) := (hg3.block b (by simp; omega) (fun e => hne e.symm)).trans ((Below.heap_alloc _ _ _ (by simp; omega)).trans ((Below.heap_alloc _ _ _ hbz1).trans HBW.out))
    have d3 : w3.cell? ⟨b, o + 1, none⟩ = some (.slice a l.length cp) := by
      rw [cell_of_row _ _ _ _ _ _ hb3, ← j1, cell_of_row _ _ _ _ _ _ HBW.out]
    have z3 : w3.frozen? ⟨b, o + 1, none⟩ = false := frozen_blk hb3 _)
  all_goals
    have HFIN : Hid (Fr (b :: (Value.slice a l.length cp).ownBlock.toList) w w3) := hid (by
      have a1 := (((Fr.refl [] W0).alloc (.cells #[.int .i64 st, .bool fl, .int .i64 vl] 138)).drewN 1).alloc (.cells #[.int .i64 st, .bool fl, .int .i64 vl] 138)
      exact (HFW.out.mono (fun k hk => .inl (by simp at hk ⊢; exact .inl hk))).trans ((a1.mono (fun k hk => by cases hk)).trans ((Fr.grown hg3).mono (fun k hk => .inl (by simp at hk ⊢; exact .inr hk)))))
    have HOW := hid hown3
    have HB3 := hid hb3
    have HVA := hid hva3
    clear hown3 hg3 hb3 hva3
    go_wp2_with fail
    go_returns
    refine ⟨rfl, g3, c3, w3, ?_, by rw [HHV.out]; exact HOW.out, HB3.out, rfl, HFIN.out⟩
    rcases HVA.out with h | h
    · exact .inl h
    · exact .inr (by have := HSZ.out; rw [h]; simp; omega)

end Go.Proofs.YthlhbjnkohinmaaGreat
