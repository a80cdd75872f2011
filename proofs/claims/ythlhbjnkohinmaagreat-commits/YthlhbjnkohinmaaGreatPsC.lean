import Derived.Test.YthlhbjnkohinmaaGreatPsB
import Derived.Deep.RegionHeld3
/- The program's engine in memory: Put, Clear, View. -/
namespace Go.Proofs.YthlhbjnkohinmaaGreat
open Go.RowKit

/-- The program's engine lies in block x. -/
structure PAt (w : World) (x : Nat) (X : PEng) (kv : Nat → Value) : Prop where
  block : ∃ cs, w.heap[x]? = some (.cells cs 91 (0, 0))
  rules : w.cell? ⟨x, 0, none⟩ = some X.src.1.1
  room : w.cell? ⟨x, 1, none⟩ = some (.int .i64 X.room)
  opened : w.cell? ⟨x, 2, none⟩ = some (.int .i64 X.opened)
  ses : SessAt w x X
  store : StoreAt w x 1955 X kv
theorem PAt.lt {w : World} {x : Nat} {X : PEng} {kv : Nat → Value} (h : PAt w x X kv) : x < w.heap.size := by
  obtain ⟨cs, hb⟩ := h.block
  exact lt_of_block hb
theorem StoreAt.other {w w' : World} {b o a n : Nat} {X : PEng} {kv : Nat → Value} (h : StoreAt w b o X kv) (hc : Chg w w' b a n) (hd : o + 121 ≤ a ∨ a + n ≤ o) : StoreAt w' b o X kv :=
  ⟨(hc.cell _ (by omega)).trans h.latest, fun c hl => (hc.cell _ (by omega)).trans (h.last c hl), fun c hl => (hc.cell _ (by omega)).trans (h.kept c hl)⟩
theorem PAt.setSes {w w' : World} {x : Nat} {X : PEng} {kv : Nat → Value} (h : PAt w x X kv) {k : Nat} (hk : k < 8) {S' : PSes} (hs : SesAt w' x (3 + k * 244) S') (hc : Chg w w' x (3 + k * 244) 244) : PAt w' x (X.setSes k S') kv := by
  obtain ⟨cs, hb⟩ := h.block
  refine ⟨hc.blk hb, (hc.cell _ (by omega)).trans h.rules, (hc.cell _ (by omega)).trans h.room, (hc.cell _ (by omega)).trans h.opened, ?_, ?_⟩
  · intro j hj
    show SesAt w' x (3 + j * 244) (upd X.ses k S' j)
    by_cases e : j = k
    · subst e; rw [upd_same]; exact hs
    · rw [upd_ne _ _ _ e]
      exact (h.ses j hj).other hc (by omega)
  · have := h.store.other hc (by omega)
    exact ⟨this.latest, this.last, this.kept⟩

/-- What a call leaves that changes the engine's own block alone. -/
def PNext (x : Nat) (X' : PEng) (kv : Nat → Value) (w w' : World) : Prop := PAt w' x X' kv ∧ Fr [x] w w'
theorem PNext.same {x : Nat} {X : PEng} {kv : Nat → Value} {w : World} (h : PAt w x X kv) : PNext x X kv w w := ⟨h, Fr.refl _ _⟩

set_option maxRecDepth 20000 in
set_option maxHeartbeats 1000000 in
theorem pput_any (x : Nat) (X : PEng) (kv : Nat → Value) (n : Int) (s : ByteArray) (w : World) (h : PAt w x X kv) (hs63 : s.size < 9223372036854775808) (hm : ∀ k, findP X n = some k → (X.ses k).more) :
    Calls Tryz.prog 21 #[.pointer (some ⟨x, 0, none⟩), .int .i64 n, .string s] w fun e w' => e = .returned (.int .i64 (pputF X n s).1) ∧ PNext x (pputF X n s).2 kv w w' := by
  have HF := hid (findp_any x X n w h.ses)
  have HR := hid (rdfact_any s w hs63)
  have HP := hid h
  unfold pputF
  cases hf : findP X n with
  | none =>
    rw [hf] at HF
    clear h hf HR hm
    go_enter Tryz.func21, Tryz.ntmps21
    go_wp2_with fail
    go_at_call 41
    refine HF.out.mono ?_
    rintro e w' ⟨rfl, rfl⟩
    simp only [placeV]
    go_wp2
    go_ret
    exact ⟨rfl, PNext.same HP.out⟩
  | some k =>
    rw [hf] at HF
    have hk : k < 8 := by
      unfold findP at hf
      split at hf
      · cases hf
      · exact (numberedP_some hf).1
    simp only []
    cases hb : factB s with
    | false =>
      have e1 : rdFact s = .tuple #[.int .i64 0, .int .i64 0, .bool false] := by unfold rdFact; rw [hb]; rfl
      rw [e1] at HR
      clear h hf e1 hb hm
      go_enter Tryz.func21, Tryz.ntmps21
      go_wp2_with fail
      go_at_call 41
      refine HF.out.mono ?_
      rintro e w' ⟨rfl, rfl⟩
      simp only [placeV]
      go_wp2_with fail
      go_at_call 42
      refine HR.out.mono ?_
      rintro e w' ⟨rfl, rfl⟩
      go_wp2
      go_ret
      exact ⟨rfl, PNext.same HP.out⟩
    | true =>
      have e1 : rdFact s = .tuple #[.int .i64 (cellN s), .int .i64 (bt s 2 - 48), .bool true] := by unfold rdFact; rw [hb]; rfl
      rw [e1] at HR
      have hcn : cellN s < 60 := by
        simp only [factB, Bool.and_eq_true, clsB, digB, decide_eq_true_eq] at hb
        unfold cellN
        omega
      obtain ⟨cs, hcs⟩ := h.block
      have HSP := hid (sput_any x (3 + k * 244) (cellN s) (bt s 2 - 48) (X.ses k) w hcn hcs (h.ses k hk) (hm k hf))
      clear h hf e1 hb hcs hm
      simp only [if_true]
      obtain ⟨v, hv⟩ : ∃ v, v = bt s 2 - 48 := ⟨_, rfl⟩
      obtain ⟨c, hc⟩ : ∃ c, c = cellN s := ⟨_, rfl⟩
      rw [← hv, ← hc] at HR HSP ⊢
      clear hv hc hcn
      go_enter Tryz.func21, Tryz.ntmps21
      go_wp2_with fail
      go_at_call 41
      refine HF.out.mono ?_
      rintro e w' ⟨rfl, rfl⟩
      simp only [placeV]
      go_wp2_with fail
      go_at_call 42
      refine HR.out.mono ?_
      rintro e w' ⟨rfl, rfl⟩
      go_wp2_with fail
      go_at_call 43
      refine HSP.out.mono ?_
      rintro e w1 ⟨rfl, ht⟩
      have HT := hid ht
      clear ht
      go_wp2
      go_ret
      exact ⟨rfl, HP.out.setSes hk HT.out.ses HT.out.chg, HT.out.chg.fr⟩

set_option maxRecDepth 20000 in
set_option maxHeartbeats 1000000 in
theorem pclear_any (x : Nat) (X : PEng) (kv : Nat → Value) (n : Int) (s : ByteArray) (w : World) (h : PAt w x X kv) (hs63 : s.size < 9223372036854775808) (hm : ∀ k, findP X n = some k → (X.ses k).more) :
    Calls Tryz.prog 23 #[.pointer (some ⟨x, 0, none⟩), .int .i64 n, .string s] w fun e w' => e = .returned (.int .i64 (pclearF X n s).1) ∧ PNext x (pclearF X n s).2 kv w w' := by
  have HF := hid (findp_any x X n w h.ses)
  have HR := hid (rdcell_any s w hs63)
  have HP := hid h
  unfold pclearF
  cases hf : findP X n with
  | none =>
    rw [hf] at HF
    clear h hf HR hm
    go_enter Tryz.func23, Tryz.ntmps23
    go_wp2_with fail
    go_at_call 41
    refine HF.out.mono ?_
    rintro e w' ⟨rfl, rfl⟩
    simp only [placeV]
    go_wp2
    go_ret
    exact ⟨rfl, PNext.same HP.out⟩
  | some k =>
    rw [hf] at HF
    have hk : k < 8 := by
      unfold findP at hf
      split at hf
      · cases hf
      · exact (numberedP_some hf).1
    simp only []
    cases hb : cellB s with
    | false =>
      have e1 : rdCell s = .tuple #[.int .i64 0, .bool false] := by unfold rdCell; rw [hb]; rfl
      rw [e1] at HR
      clear h hf e1 hb hm
      go_enter Tryz.func23, Tryz.ntmps23
      go_wp2_with fail
      go_at_call 41
      refine HF.out.mono ?_
      rintro e w' ⟨rfl, rfl⟩
      simp only [placeV]
      go_wp2_with fail
      go_at_call 47
      refine HR.out.mono ?_
      rintro e w' ⟨rfl, rfl⟩
      go_wp2
      go_ret
      exact ⟨rfl, PNext.same HP.out⟩
    | true =>
      have e1 : rdCell s = .tuple #[.int .i64 (cellN s), .bool true] := by unfold rdCell; rw [hb]; rfl
      rw [e1] at HR
      have hcn : cellN s < 60 := by
        simp only [cellB, Bool.and_eq_true, clsB, digB, decide_eq_true_eq] at hb
        unfold cellN
        omega
      obtain ⟨cs, hcs⟩ := h.block
      have HSP := hid (sclear_any x (3 + k * 244) (cellN s) (X.ses k) w hcn hcs (h.ses k hk) (hm k hf))
      clear h hf e1 hb hcs hm
      simp only [if_true]
      obtain ⟨c, hc⟩ : ∃ c, c = cellN s := ⟨_, rfl⟩
      rw [← hc] at HR HSP ⊢
      clear hc hcn
      go_enter Tryz.func23, Tryz.ntmps23
      go_wp2_with fail
      go_at_call 41
      refine HF.out.mono ?_
      rintro e w' ⟨rfl, rfl⟩
      simp only [placeV]
      go_wp2_with fail
      go_at_call 47
      refine HR.out.mono ?_
      rintro e w' ⟨rfl, rfl⟩
      go_wp2_with fail
      go_at_call 48
      refine HSP.out.mono ?_
      rintro e w1 ⟨rfl, ht⟩
      have HT := hid ht
      clear ht
      go_wp2
      go_ret
      exact ⟨rfl, HP.out.setSes hk HT.out.ses HT.out.chg, HT.out.chg.fr⟩

end Go.Proofs.YthlhbjnkohinmaaGreat

/- The program's engine in memory: View. -/
namespace Go.Proofs.YthlhbjnkohinmaaGreat
open Go.RowKit

theorem PAt.grown {w w' : World} {x : Nat} {X : PEng} {kv : Nat → Value} (h : PAt w x X kv) (hg : w.grownBy w' none) : PAt w' x X kv := by
  obtain ⟨cs, hb⟩ := h.block
  refine ⟨⟨cs, (hg.block x (lt_of_block hb) (by simp)).trans hb⟩, grown_cell hg h.rules, grown_cell hg h.room, grown_cell hg h.opened, fun k hk => ?_, ⟨grown_cell hg h.store.latest, fun c hc => grown_cell hg (h.store.last c hc), fun c hc => grown_cell hg (h.store.kept c hc)⟩⟩
  have := h.ses k hk
  exact ⟨grown_cell hg this.num, grown_cell hg this.snap, grown_cell hg this.cnt, fun c hc => grown_cell hg (this.made c hc), fun c hc => grown_cell hg (this.filled c hc), fun c hc => grown_cell hg (this.val c hc), fun c hc => grown_cell hg (this.tm c hc), grown_cell hg this.mks, this.ok⟩

theorem there_blk {w : World} {g n : Nat} {cs : Array Value} {t : TypeId} (hn : cs.size = n) (hb : w.heap[g]? = some (.cells cs t (0, 0))) : w.there g 0 n := fun j hj => by
  refine ⟨?_, frozen_blk hb _⟩
  rw [cell_of_row _ _ _ _ _ _ hb, Array.getElem?_eq_getElem (by omega)]
  rfl
theorem cell_setCells_ne {w : World} {b o x i : Nat} {vs : List Value} (h : x ≠ b) : (w.setCells b o vs).cell? ⟨x, i, none⟩ = w.cell? ⟨x, i, none⟩ := World.cell?_setCells_out b vs o w ⟨x, i, none⟩ (fun hb _ => absurd hb h)
theorem grown_setCells {w : World} {r : Option Nat} {b : Nat} (hb : w.heap.size ≤ b) : ∀ (vs : List Value) (o : Nat) {w' : World}, w.grownBy w' r → w.grownBy (w'.setCells b o vs) r
  | [], _, _, h => h
  | v :: vs, o, _, h => grown_setCells hb vs (o + 1) (grown_set h (.inr hb) v)
theorem there_new (w : World) {n : Nat} {cs : Array Value} {t : TypeId} (hn : cs.size = n) : (w.alloc (.cells cs t)).there w.heap.size 0 n := there_blk hn (heap_alloc_new w _)

/-- The facts that the session in a place sees. -/
def sawX (X : PEng) (k : Nat) : List PFact := sawN (X.ses k) (fun c => histV (X.hist c) (X.ses k).snap) 60
/-- Values are digits. -/
def Digs (g : Nat → Option Int) : Prop := ∀ c v, c < 60 → g c = some v → 0 ≤ v ∧ v ≤ 9
theorem seenT_one (X : PEng) (k c : Nat) : (seenT (X.ses k) (fun c => histV (X.hist c) (X.ses k).snap) c).map (·.1) = seenP X k c := by
  unfold seenT seenP
  cases h : (X.ses k).wr c with
  | none => simp [histV_two, Function.comp_def]
  | some v => simp [Function.comp_def]
theorem sawX_mem {X : PEng} {k : Nat} {q : PFact} (h : q ∈ sawX X k) : q.1 < 60 ∧ seenP X k q.1 = some q.2.1 := by
  unfold sawX sawN at h
  obtain ⟨c, hc, hm⟩ := List.mem_filterMap.mp h
  cases hs : seenT (X.ses k) (fun c => histV (X.hist c) (X.ses k).snap) c with
  | none => rw [hs] at hm; cases hm
  | some p =>
    rw [hs] at hm
    simp only [Option.map_some, Option.some.injEq] at hm
    rw [← hm]
    have := seenT_one X k c
    rw [hs] at this
    exact ⟨by simpa using hc, this.symm⟩
theorem viewP_saw (X : PEng) (k : Nat) : viewP X k = joined ((sawX X k).map fun q => factP q.1 q.2.1) := by
  unfold viewP sawX sawN
  rw [List.map_filterMap]
  congr 2
  funext c
  rw [← seenT_one X k c]
  cases seenT (X.ses k) (fun c => histV (X.hist c) (X.ses k).snap) c <;> rfl
theorem sawX_le (X : PEng) (k : Nat) : (sawX X k).length ≤ 60 := sawN_le _ _ _

set_option maxRecDepth 20000 in
set_option maxHeartbeats 2000000 in
theorem pseen_any (x : Nat) (X : PEng) (kv : Nat → Value) (k : Nat) (w : World) (hk : k < 8) (h : PAt w x X kv) (hR : HRows w X kv) (hl : ∀ c, c < 60 → (X.hist c).length ≤ 9223372036854775807) :
    Calls Tryz.prog 49 #[.pointer (some ⟨x, 0, none⟩), .pointer (some ⟨x, 3 + k * 244, none⟩)] w fun e w' => ∃ v, e = .returned v ∧ w'.ownsRow w.heap.size 114 4 v (sawX X k).length (fcCells (sawX X k)) ∧ w.grownBy w' none := by
  have c1 := (h.ses k hk).snap
  have hxl := h.lt
  obtain ⟨sn, hsn⟩ : ∃ sn, sn = (X.ses k).snap := ⟨_, rfl⟩
  rw [← hsn] at c1
  have HAT : Hid (∀ W, w.grownBy W none → Calls Tryz.prog 65 #[.pointer (some ⟨x, 1955, none⟩), .int .i64 sn] W fun e w' => (∃ sc, e = .returned (.agg sc) ∧ StArr sc 60 (fun c => histV (X.hist c) sn)) ∧ W.grownBy w' none) := hid (fun W hg => sat_any x 1955 X kv sn W (h.grown hg).store (fun c hc => ownsRow_grown hg (hR c hc)) hl)
  have HSV : Hid (∀ W sc, w.grownBy W none → StArr sc 60 (fun c => histV (X.hist c) sn) → Calls Tryz.prog 83 #[.pointer (some ⟨x, 3 + k * 244, none⟩), .agg sc] W fun e w' => ∃ v, e = .returned v ∧ w'.ownsRow w.heap.size 114 4 v (sawX X k).length (fcCells (sawX X k)) ∧ W.grownBy w' none) := hid (fun W sc hg hsc => by
    have := ssees_any x (3 + k * 244) (X.ses k) (fun c => histV (X.hist c) sn) sc W ((h.grown hg).ses k hk) hsc
    rw [hsn] at this
    refine this.mono ?_
    rintro e w' ⟨v, rfl, ho, hg'⟩
    exact ⟨v, rfl, own_mono ho hg.size, hg'⟩)
  obtain ⟨hz, hzs⟩ := zero_of_info Tryz.zinfo139
  obtain ⟨z, hzz⟩ : ∃ z, z = zeroStates := ⟨_, rfl⟩
  have hzsz : Hid (z.size = 180) := hid (by rw [hzz]; exact zeroStates_size)
  rw [← hzz] at hz
  have HZS := hid hzs
  clear h hR hl hzz hzs hsn
  have hxz : x ≠ w.heap.size := by omega
  obtain ⟨F, hF⟩ : ∃ F, F = sawX X k := ⟨_, rfl⟩
  rw [← hF] at HSV ⊢
  clear hF
  go_enter Tryz.func49, Tryz.ntmps49
  go_wp2_with fail
  have hne := World.new_ne w ⟨x, 3 + k * 244 + 1, none⟩ c1
  go_region_held3 (fun W => W.cell? ⟨x, 3 + k * 244 + 1, none⟩ = some (.int .i64 sn)) (first | go_keep | (exact grown_cell hg1 (by assumption)) | (rw [cell_setCells_ne (by first | exact hxn1 | exact hxz)]; assumption)) (first
    | (go_at_call 65
       refine (HAT.out _ (by first | exact grown_drewN (grown_refl _ _) 1 | exact grown_drewN (grown_alloc (grown_refl _ _) _) 1 | exact grown_alloc (grown_drewN (grown_refl _ _) 1) _)).mono ?_
       rintro e w1 ⟨⟨sc, rfl, hsc⟩, hg1⟩
       obtain ⟨cl, rfl⟩ : ∃ cl : List Value, sc = cl.toArray := ⟨sc.toList, by simp⟩
       have HSC := hid hsc
       have hcl : cl.length = 180 := by have := hsc.size; simpa using this
       have hinf : (Tryz.prog.info? 139).map (·.size) = some cl.length := HZS.out.trans (by rw [hcl])
       have hone : ∀ v ∈ cl, v.oneCell' = true := fun v hv => Array.all_eq_true_iff_forall_mem.1 hsc.one v (by simpa using hv)
       clear hsc
       have hxn1 : x ≠ w1.heap.size := by have := hg1.size; simp at this; omega
       have HthA : (w1.alloc (.cells z 139)).there w1.heap.size 0 180 := there_new w1 hzsz.out
       try (have HthB : w1.there w.heap.size 0 180 := there_blk hzsz.out ((hg1.block w.heap.size (by simp) (by simp)).trans (heap_alloc_new _ _)))))
  · have HR2 := hid (World.rangeAt_setCells_same _ w1.heap.size 0 cl (by rw [hcl]; exact HthA))
    have HG2 : Hid (w.grownBy ((w1.alloc (.cells z 139)).setCells w1.heap.size 0 cl) none) := hid (grown_setCells (by have := hg1.size; simpa using this) _ _ (grown_alloc (grown_undrew (n := 1) hg1) _))
    clear HthA hg1
    generalize (w1.alloc (.cells z 139)).setCells w1.heap.size 0 cl = W2 at HR2 HG2 ⊢
    go_wp2_with (refine wpList_load_mid rfl 139 (.tmp 5) rfl w1.heap.size 0 rfl cl _ HR2.out Tryz.underlying139 rfl hinf ?_)
    go_at_call 83
    refine (HSV.out _ _ HG2.out HSC.out).mono ?_
    rintro e w3 ⟨v, rfl, hown, hg3⟩
    have HG3 := hid hg3
    have HOW := hid hown
    clear hg3 hown
    go_wp2
    go_ret
    exact ⟨v, rfl, HOW.out, grown_trans HG2.out HG3.out⟩
  · have HR2 := hid (World.rangeAt_setCells_same _ w.heap.size 0 cl (by rw [hcl]; exact HthB))
    have HG2 : Hid (w.grownBy (w1.setCells w.heap.size 0 cl) none) := hid (grown_setCells (Nat.le_refl _) _ _ (grown_trans (by first | exact grown_drewN (grown_alloc (grown_refl _ _) _) 1 | exact grown_alloc (grown_drewN (grown_refl _ _) 1) _) hg1))
    clear HthA HthB hg1
    generalize w1.setCells w.heap.size 0 cl = W2 at HR2 HG2 ⊢
    go_wp2_with (refine wpList_load_mid rfl 139 (.tmp 5) rfl w.heap.size 0 rfl cl _ HR2.out Tryz.underlying139 rfl hinf ?_)
    go_at_call 83
    refine (HSV.out _ _ HG2.out HSC.out).mono ?_
    rintro e w3 ⟨v, rfl, hown, hg3⟩
    have HG3 := hid hg3
    have HOW := hid hown
    clear hg3 hown
    go_wp2
    go_ret
    exact ⟨v, rfl, HOW.out, grown_trans HG2.out HG3.out⟩

theorem joined_take (F : List PFact) (j : Nat) (hj : j < F.length) : joined ((F.take (j + 1)).map fun q => factP q.1 q.2.1) = joined ((F.take j).map fun q => factP q.1 q.2.1) ++ factP F[j].1 F[j].2.1 := by
  rw [List.take_succ_eq_append_getElem hj, List.map_append]
  exact joined_snoc _ _
theorem joined_facts_size (F : List PFact) : (joined (F.map fun q => factP q.1 q.2.1)).size = 3 * F.length := by
  have key : ∀ (l : List PFact) (z : ByteArray), ((l.map fun q => factP q.1 q.2.1).foldl (· ++ ·) z).size = z.size + 3 * l.length := by
    intro l
    induction l with
    | nil => intro z; simp
    | cons q l ih =>
      intro z
      rw [List.map_cons, List.foldl_cons, ih, ByteArray.size_append, size_factP]
      simp
      omega
  have := key F ByteArray.empty
  unfold joined
  rw [this]
  simp

set_option maxRecDepth 20000 in
set_option maxHeartbeats 2000000 in
theorem pview_any (x : Nat) (X : PEng) (kv : Nat → Value) (n : Int) (w : World) (h : PAt w x X kv) (hR : HRows w X kv) (hl : ∀ c, c < 60 → (X.hist c).length ≤ 9223372036854775807) (hd : ∀ k, findP X n = some k → Digs (seenP X k)) :
    Calls Tryz.prog 25 #[.pointer (some ⟨x, 0, none⟩), .int .i64 n] w fun e w' => e = .returned (.tuple #[.string (pviewF X n).1, .int .i64 (pviewF X n).2]) ∧ w.grownBy w' none := by
  have HF := hid (findp_any x X n w h.ses)
  unfold pviewF
  cases hf : findP X n with
  | none =>
    rw [hf] at HF
    clear h hf hR hl hd
    go_enter Tryz.func25, Tryz.ntmps25
    go_wp2_with fail
    go_at_call 41
    refine HF.out.mono ?_
    rintro e w' ⟨rfl, rfl⟩
    simp only [placeV]
    go_wp2
    go_ret2
    exact ⟨rfl, grown_refl _ _⟩
  | some k =>
    rw [hf] at HF
    have hk : k < 8 := by
      unfold findP at hf
      split at hf
      · cases hf
      · exact (numberedP_some hf).1
    simp only []
    have HSE := hid (pseen_any x X kv k w hk h hR hl)
    have HD : Hid (∀ q ∈ sawX X k, q.1 < 60 ∧ 0 ≤ q.2.1 ∧ q.2.1 ≤ 9) := hid (fun q hq => ⟨(sawX_mem hq).1, hd k hf q.1 q.2.1 (sawX_mem hq).1 (sawX_mem hq).2⟩)
    have hFl := sawX_le X k
    rw [viewP_saw]
    obtain ⟨F, hF⟩ : ∃ F, F = sawX X k := ⟨_, rfl⟩
    rw [← hF] at HSE HD hFl ⊢
    clear h hf hR hl hd hF
    go_enter Tryz.func25, Tryz.ntmps25
    go_wp2_with fail
    go_at_call 41
    refine HF.out.mono ?_
    rintro e w' ⟨rfl, rfl⟩
    simp only [placeV]
    go_wp2_with fail
    go_at_call 49
    refine HSE.out.mono ?_
    rintro e w1 ⟨v, rfl, hown, hg1⟩
    obtain ⟨a, m, c, rfl⟩ := own_slice hown
    have em := own_len hown
    subst em
    have HG1 := hid hg1
    have HOW := hid hown
    clear HSE hg1 hown HF
    go_wp2_with fail
    go_loopw [8, 21] (fun t i wr => ∃ j : Nat, j ≤ F.length ∧ i = .int .i64 j ∧ t = .string (joined ((F.take j).map fun q => factP q.1 q.2.1)) ∧ w1.grownBy wr none) (fun _ i _ => F.length - (intOf i).toNat)
    case atStart => exact ⟨0, Nat.zero_le _, rfl, rfl, grown_refl _ _⟩
    case round =>
      obtain ⟨j, hj, rfl, rfl, hg⟩ := hrel
      have HG := hid hg
      by_cases hlt : j < F.length
      · have how := own_kept HOW.out hg (fun g hg => by cases hg)
        obtain ⟨g, rfl, _, hgb, hgl, hcell⟩ := own_cell how (by omega)
        obtain ⟨a0, a1, a2, a3⟩ := fcCells_at F j hlt
        have d0 := hcell _ _ a0
        have d1 := hcell _ _ a1
        have d2 := hcell _ _ a2
        have d3 := hcell _ _ a3
        obtain ⟨hb1, hb2, hb3⟩ := HD.out F[j] (List.getElem_mem hlt)
        have HTX := hid (fun W => facttext_any F[j].1 F[j].2.1 F[j].2.2 W hb1 hb2 hb3)
        unfold factV at HTX
        have HJ := hid (joined_take F j hlt)
        have hjs : (joined ((F.take j).map fun q => factP q.1 q.2.1)).size ≤ 180 := by rw [joined_facts_size]; simp; omega
        have hfz := size_factP F[j].1 F[j].2.1
        obtain ⟨jt, hjt⟩ : ∃ jt, jt = joined ((F.take j).map fun q => factP q.1 q.2.1) := ⟨_, rfl⟩
        obtain ⟨ft, hft⟩ : ∃ ft, ft = factP F[j].1 F[j].2.1 := ⟨_, rfl⟩
        rw [← hjt] at hjs HJ ⊢
        rw [← hft] at hfz HJ HTX
        have hgz : g ≠ wr.heap.size := by omega
        obtain ⟨c0, hc0⟩ : ∃ c0, c0 = F[j].1 := ⟨_, rfl⟩
        obtain ⟨v0, hv0⟩ : ∃ v0, v0 = F[j].2.1 := ⟨_, rfl⟩
        obtain ⟨t0, ht0⟩ : ∃ t0, t0 = F[j].2.2 := ⟨_, rfl⟩
        rw [← hc0] at d0 d1
        rw [← hv0] at d2
        rw [← ht0] at d3
        simp only [] at HTX
        rw [← hc0, ← hv0, ← ht0] at HTX
        clear hjt hft hcell a0 a1 a2 a3 hb1 hb2 hb3 hc0 hv0 ht0 how hg
        go_wp2_with fail
        go_at_call 50
        refine (HTX.out _).mono ?_
        rintro e w2 ⟨rfl, hg2⟩
        have HG2 := hid hg2
        clear hg2
        go_wp2_with fail
        go_roundw
        case rel => exact ⟨j + 1, by omega, by go_num, by rw [HJ.out], grown_trans HG.out (grown_trans (grown_alloc (grown_refl _ _) _) HG2.out)⟩
        case measure => simp [intOf]; omega
      · clear hg
        go_wp2
        go_ret2
        have e : F.take j = F := List.take_of_length_le (by omega)
        rw [e]
        exact ⟨rfl, grown_trans HG1.out HG.out⟩

end Go.Proofs.YthlhbjnkohinmaaGreat

/- The program's engine in memory: a session laid whole; Abort. -/
namespace Go.Proofs.YthlhbjnkohinmaaGreat
open Go.RowKit

theorem flat4_len {α : Type} {f : Nat → List α} (hf : ∀ c, (f c).length = 4) : ∀ n, ((List.range n).flatMap f).length = n * 4
  | 0 => rfl
  | n + 1 => by rw [List.range_succ, List.flatMap_append, List.length_append, flat4_len hf n]; simp [hf]; omega
theorem flat4_at {α : Type} {f : Nat → List α} (hf : ∀ c, (f c).length = 4) {c j : Nat} (hj : j < 4) : ∀ n, c < n → ((List.range n).flatMap f)[c * 4 + j]? = (f c)[j]?
  | 0, h => by omega
  | n + 1, h => by
    rw [List.range_succ, List.flatMap_append]
    by_cases e : c = n
    · subst e
      rw [List.getElem?_append_right (by rw [flat4_len hf]; omega), flat4_len hf]
      simp
    · rw [List.getElem?_append_left (by rw [flat4_len hf]; omega)]
      exact flat4_at hf hj n (by omega)

/-- The cells of writes, and of a session. -/
def wrsCells (wr : Nat → PW) (tm : Nat → Int) : List Value := (List.range 60).flatMap fun c => [.bool (wMade (wr c)), .bool (wFilled (wr c)), .int .i64 (wVal (wr c)), .int .i64 (tm c)]
def sesCells (S : PSes) : List Value := .int .i64 S.num :: .int .i64 S.snap :: .int .i64 S.made :: (wrsCells S.wr S.tm ++ [mkV S.mks])
theorem wrsCells_len (wr : Nat → PW) (tm : Nat → Int) : (wrsCells wr tm).length = 240 := flat4_len (fun _ => rfl) 60
theorem sesCells_len (S : PSes) : (sesCells S).length = 244 := by simp [sesCells, wrsCells_len]
theorem wrsCells_at (wr : Nat → PW) (tm : Nat → Int) {c : Nat} (hc : c < 60) : (wrsCells wr tm)[c * 4]? = some (.bool (wMade (wr c))) ∧ (wrsCells wr tm)[c * 4 + 1]? = some (.bool (wFilled (wr c))) ∧ (wrsCells wr tm)[c * 4 + 2]? = some (.int .i64 (wVal (wr c))) ∧ (wrsCells wr tm)[c * 4 + 3]? = some (.int .i64 (tm c)) :=
  ⟨flat4_at (j := 0) (fun _ => rfl) (by omega) 60 hc, flat4_at (j := 1) (fun _ => rfl) (by omega) 60 hc, flat4_at (j := 2) (fun _ => rfl) (by omega) 60 hc, flat4_at (j := 3) (fun _ => rfl) (by omega) 60 hc⟩
theorem wrsCells_one (wr : Nat → PW) (tm : Nat → Int) : ∀ v ∈ wrsCells wr tm, v.oneCell' = true := by
  intro v hv
  unfold wrsCells at hv
  rw [List.mem_flatMap] at hv
  obtain ⟨c, _, h⟩ := hv
  simp at h
  rcases h with rfl | rfl | rfl | rfl <;> rfl
theorem sesCells_one (S : PSes) : ∀ v ∈ sesCells S, v.oneCell' = true := by
  intro v hv
  unfold sesCells at hv
  simp only [List.mem_cons, List.mem_append, List.not_mem_nil, or_false] at hv
  rcases hv with rfl | rfl | rfl | hv | rfl
  · rfl
  · rfl
  · rfl
  · exact wrsCells_one _ _ v hv
  · cases S.mks <;> rfl

/-- The writes of a session lie in block b from o on. -/
theorem SesAt.writes {w : World} {b o : Nat} {S : PSes} (h : SesAt w b o S) : w.rangeAt b (o + 3) (wrsCells S.wr S.tm) := by
  intro j v hv
  have hj : j < 240 := by
    have := (List.getElem?_eq_some_iff.1 hv).1
    rw [wrsCells_len] at this
    exact this
  obtain ⟨a0, a1, a2, a3⟩ := wrsCells_at S.wr S.tm (c := j / 4) (by omega)
  have e : j = j / 4 * 4 ∨ j = j / 4 * 4 + 1 ∨ j = j / 4 * 4 + 2 ∨ j = j / 4 * 4 + 3 := by omega
  rcases e with e | e | e | e
  · rw [e, a0] at hv
    rw [e, ← hv]
    exact h.made (j / 4) (by omega)
  · rw [e, a1] at hv
    rw [e, ← hv]
    exact h.filled (j / 4) (by omega)
  · rw [e, a2] at hv
    rw [e, ← hv]
    exact h.val (j / 4) (by omega)
  · rw [e, a3] at hv
    rw [e, ← hv]
    exact h.tm (j / 4) (by omega)
theorem SesAt.range {w : World} {b o : Nat} {S : PSes} (h : SesAt w b o S) : w.rangeAt b o (sesCells S) := by
  intro j v hv
  match j, hv with
  | 0, hv =>
    simp [sesCells] at hv
    rw [← hv]
    exact h.num
  | 1, hv =>
    simp [sesCells] at hv
    rw [← hv]
    exact h.snap
  | 2, hv =>
    simp [sesCells] at hv
    rw [← hv]
    exact h.cnt
  | j + 3, hv =>
    have hv' : (wrsCells S.wr S.tm ++ [mkV S.mks])[j]? = some v := by simpa only [sesCells, List.getElem?_cons_succ] using hv
    rw [show o + (j + 3) = o + 3 + j by omega]
    by_cases hj : j < 240
    · rw [List.getElem?_append_left (by rw [wrsCells_len]; exact hj)] at hv'
      exact h.writes j v hv'
    · rw [List.getElem?_append_right (by rw [wrsCells_len]; omega), wrsCells_len] at hv'
      have e : j = 240 := by
        have := (List.getElem?_eq_some_iff.1 hv').1
        simp at this
        omega
      subst e
      simp at hv'
      rw [← hv']
      exact h.mks
theorem SesAt.of {w : World} {b o : Nat} {S : PSes} (h : w.rangeAt b o (sesCells S)) (hk : S.ok) : SesAt w b o S := by
  have hw : ∀ j v, (wrsCells S.wr S.tm)[j]? = some v → w.cell? ⟨b, o + 3 + j, none⟩ = some v := fun j v hv => by
    have hj : j < (wrsCells S.wr S.tm).length := (List.getElem?_eq_some_iff.1 hv).1
    have := h (j + 3) v (by
      show (wrsCells S.wr S.tm ++ [mkV S.mks])[j]? = some v
      rw [List.getElem?_append_left hj]
      exact hv)
    rw [show o + (j + 3) = o + 3 + j by omega] at this
    exact this
  exact ⟨h 0 _ rfl, h 1 _ rfl, h 2 _ rfl, fun c hc => hw _ _ (wrsCells_at S.wr S.tm hc).1, fun c hc => hw _ _ (wrsCells_at S.wr S.tm hc).2.1, fun c hc => hw _ _ (wrsCells_at S.wr S.tm hc).2.2.1, fun c hc => hw _ _ (wrsCells_at S.wr S.tm hc).2.2.2, h 243 _ (by
    show (wrsCells S.wr S.tm ++ [mkV S.mks])[240]? = some (mkV S.mks)
    rw [List.getElem?_append_right (by rw [wrsCells_len]; omega), wrsCells_len]
    rfl), hk⟩
theorem ok_new (n t : Int) : (PSes.new n t).ok := ⟨Int.le_refl 0, rfl⟩
theorem ok_zero : PSes.zero.ok := ⟨Int.le_refl 0, rfl⟩

theorem Chg.setCells {w : World} {b a n : Nat} : ∀ (vs : List Value) (o : Nat) {w' : World}, a ≤ o → o + vs.length ≤ a + n → Chg w w' b a n → Chg w (w'.setCells b o vs) b a n
  | [], _, _, _, _, h => h
  | v :: vs, o, _, h1, h2, h => Chg.setCells vs (o + 1) (by omega) (by simp at h2; omega) (h.set h1 (by simp at h2; omega) v)

/-- A place of the engine may be written. -/
theorem PAt.there {w : World} {x : Nat} {X : PEng} {kv : Nat → Value} (h : PAt w x X kv) {k : Nat} (hk : k < 8) : w.there x (3 + k * 244) 244 := by
  intro j hj
  obtain ⟨cs, hb⟩ := h.block
  refine ⟨?_, frozen_blk hb _⟩
  exact World.rangeAt.isSome (h.ses k hk).range j (by rw [sesCells_len]; exact hj)
/-- A session is laid into a place. -/
theorem PAt.lay {w : World} {x : Nat} {X : PEng} {kv : Nat → Value} (h : PAt w x X kv) {k : Nat} (hk : k < 8) (S' : PSes) (hk' : S'.ok) : PAt (w.setCells x (3 + k * 244) (sesCells S')) x (X.setSes k S') kv ∧ Fr [x] w (w.setCells x (3 + k * 244) (sesCells S')) := by
  have hc : Chg w (w.setCells x (3 + k * 244) (sesCells S')) x (3 + k * 244) 244 := Chg.setCells _ _ (Nat.le_refl _) (by rw [sesCells_len]; omega) (Chg.refl _ _ _ _)
  exact ⟨h.setSes hk (.of (World.rangeAt_setCells_same _ _ _ _ (by rw [sesCells_len]; exact h.there hk)) hk') hc, hc.fr⟩

theorem zero_ses : Tryz.zeroCells82.toList = sesCells .zero := by kernel_rfl
theorem info_ses : (Tryz.prog.info? 82).map (·.size) = some 244 := by kernel_rfl

/-- Cells are stored into the midst of a block. -/
theorem run_storeCells_mid {P : Program} (w : World) (b o : Nat) (cs : List Value) (ht : w.there b o cs.length) (h1 : ∀ v ∈ cs, v.oneCell' = true) : (storeCells ⟨b, o, none⟩ cs 0).run P w = .ok () (w.setCells b o cs) := by
  have := run_storeCells_cells (P := P) b o cs 0 w (fun j hj => by simpa using (ht j hj).1) (fun j hj => by simpa using (ht j hj).2) h1
  simpa using this

set_option maxRecDepth 20000 in
set_option maxHeartbeats 1000000 in
theorem pabort_any (x : Nat) (X : PEng) (kv : Nat → Value) (n : Int) (w : World) (h : PAt w x X kv) :
    Calls Tryz.prog 27 #[.pointer (some ⟨x, 0, none⟩), .int .i64 n] w fun e w' => e = .returned (.int .i64 (pabortF X n).1) ∧ PNext x (pabortF X n).2 kv w w' := by
  have HF := hid (findp_any x X n w h.ses)
  have HP := hid h
  unfold pabortF
  cases hf : findP X n with
  | none =>
    rw [hf] at HF
    clear h hf
    go_enter Tryz.func27, Tryz.ntmps27
    go_wp2_with fail
    go_at_call 41
    refine HF.out.mono ?_
    rintro e w' ⟨rfl, rfl⟩
    simp only [placeV]
    go_wp2
    go_ret
    exact ⟨rfl, PNext.same HP.out⟩
  | some k =>
    rw [hf] at HF
    have hk : k < 8 := by
      unfold findP at hf
      split at hf
      · cases hf
      · exact (numberedP_some hf).1
    simp only []
    have HL := hid (h.lay hk .zero ok_zero)
    have hst := run_storeCells_mid (P := Tryz.prog) w x (3 + k * 244) Tryz.zeroCells82.toList (by rw [zero_ses, sesCells_len]; exact h.there hk) (by rw [zero_ses]; exact sesCells_one _)
    rw [← zero_ses] at HL
    clear h hf
    go_enter Tryz.func27, Tryz.ntmps27
    go_wp2_with fail
    go_at_call 41
    refine HF.out.mono ?_
    rintro e w' ⟨rfl, rfl⟩
    simp only [placeV]
    go_wp2_with fail
    go_ret
    exact ⟨rfl, HL.out⟩

end Go.Proofs.YthlhbjnkohinmaaGreat

/- The program's engine in memory: Open. -/
namespace Go.Proofs.YthlhbjnkohinmaaGreat
open Go.RowKit

set_option maxRecDepth 20000 in
set_option maxHeartbeats 1000000 in
theorem popen_any (x : Nat) (X : PEng) (kv : Nat → Value) (w : World) (h : PAt w x X kv) (ho : 0 ≤ X.opened ∧ X.opened < 9223372036854775807) :
    Calls Tryz.prog 19 #[.pointer (some ⟨x, 0, none⟩)] w fun e w' => e = .returned (.tuple #[.int .i64 (popenF X).1.1, .int .i64 (popenF X).1.2]) ∧ PNext x (popenF X).2 kv w w' := by
  have HF := hid (numbered_any x X 0 w h.ses)
  have HP := hid h
  unfold popenF
  cases hf : numberedP X 0 with
  | none =>
    rw [hf] at HF
    clear h hf ho
    go_enter Tryz.func19, Tryz.ntmps19
    go_wp2_with fail
    go_at_call 40
    refine HF.out.mono ?_
    rintro e w' ⟨rfl, rfl⟩
    simp only [placeV]
    go_wp2
    go_ret2
    exact ⟨rfl, PNext.same HP.out⟩
  | some k =>
    rw [hf] at HF
    have hk : k < 8 := (numberedP_some hf).1
    simp only []
    obtain ⟨cs, hb⟩ := h.block
    have c2 := h.opened
    have z2 := frozen_blk hb 2
    have c3 := h.store.latest
    have hch : Chg w (w.setCell ⟨x, 2, none⟩ (.int .i64 (X.opened + 1))).drew x 2 1 := ((Chg.refl w x 2 1).set (by omega) (by omega) _).drewN 1
    have hP1 : PAt (w.setCell ⟨x, 2, none⟩ (.int .i64 (X.opened + 1))).drew x { X with opened := X.opened + 1 } kv := by
      refine ⟨hch.blk hb, (hch.cell _ (by omega)).trans h.rules, (hch.cell _ (by omega)).trans h.room, ?_, fun j hj => (h.ses j hj).other hch (by omega), ?_⟩
      · show World.cell? (World.setCell _ _ _) _ = _
        rw [World.cell?_setCell_same _ _ _ h.opened]
      · have := h.store.other hch (by omega)
        exact ⟨this.latest, this.last, this.kept⟩
    have hL : (Tryz.zeroCells82.toList.set 0 (.int .i64 (X.opened + 1))).set 1 (.int .i64 X.latest) = sesCells (.new (X.opened + 1) X.latest) := by rw [zero_ses]; rfl
    have hlay := hP1.lay hk (.new (X.opened + 1) X.latest) (ok_new _ _)
    have hst := run_storeCells_mid (P := Tryz.prog) (w.setCell ⟨x, 2, none⟩ (.int .i64 (X.opened + 1))).drew x (3 + k * 244) ((Tryz.zeroCells82.toList.set 0 (.int .i64 (X.opened + 1))).set 1 (.int .i64 X.latest)) (by rw [hL, sesCells_len]; exact hP1.there hk) (by rw [hL]; exact sesCells_one _)
    have c4 : ((w.setCell ⟨x, 2, none⟩ (.int .i64 (X.opened + 1))).drew.setCells x (3 + k * 244) ((Tryz.zeroCells82.toList.set 0 (.int .i64 (X.opened + 1))).set 1 (.int .i64 X.latest))).cell? ⟨x, 2, none⟩ = some (.int .i64 (X.opened + 1)) := by rw [hL]; exact hlay.1.opened
    rw [← hL] at hlay
    have HL : Hid (PNext x { X with opened := X.opened + 1, ses := upd X.ses k (.new (X.opened + 1) X.latest) } kv w ((w.setCell ⟨x, 2, none⟩ (.int .i64 (X.opened + 1))).drew.setCells x (3 + k * 244) ((Tryz.zeroCells82.toList.set 0 (.int .i64 (X.opened + 1))).set 1 (.int .i64 X.latest)))) := hid ⟨hlay.1, hch.fr.trans hlay.2⟩
    clear hlay hL hP1 hch
    obtain ⟨op, hop⟩ : ∃ op, op = X.opened := ⟨_, rfl⟩
    obtain ⟨lt, hlt⟩ : ∃ lt, lt = X.latest := ⟨_, rfl⟩
    rw [← hop] at c2 ho hst c4 HL ⊢
    rw [← hlt] at c3 hst c4 HL ⊢
    obtain ⟨ho1, ho2⟩ := ho
    clear h hf hb hop hlt
    go_enter Tryz.func19, Tryz.ntmps19
    go_wp2_with fail
    go_at_call 40
    refine HF.out.mono ?_
    rintro e w' ⟨rfl, rfl⟩
    simp only [placeV]
    go_wp2_with fail
    go_region
    all_goals go_wp2_with fail
    all_goals go_ret2
    all_goals exact ⟨rfl, HL.out⟩

end Go.Proofs.YthlhbjnkohinmaaGreat
