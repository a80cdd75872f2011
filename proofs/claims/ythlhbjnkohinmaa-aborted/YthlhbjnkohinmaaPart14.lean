import Derived.Test.YthlhbjnkohinmaaPart13
import Derived.Test.YthlhbjnkohinmaaPart07
import Derived.Test.YthlhbjnkohinmaaRead
import Derived.Test.YthlhbjnkohinmaaPart01
import Derived.Test.YthlhbjnkohinmaaPs8
/- The program's Run. -/
namespace Go.Proofs.Ythlhbjnkohinmaa
open Go.RowKit

/-- The same, from an earlier world on. -/
theorem RunAt.since {b o : Nat} {G : List Nat} {S : PSes} {fm : Nat → Option Int} {m : Option Nat} {w0 W W' w : World} (h : RunAt b o G S fm m W' w) (hW : w0.grownBy W none) (hd : W'.heap = W.heap ∧ W'.os = W.os ∧ W'.tape = W.tape ∧ W'.output = W.output) (hb : b < w0.heap.size) : RunAt b o G S fm m w0 w := by
  obtain ⟨d1, d2, d3, d4⟩ := hd
  have e := hW.block b hb (by simp)
  have hf := fr_none hW
  refine ⟨h.ses, h.mar, ⟨⟨h.chg.fr.os.trans (d2.trans hf.os), h.chg.fr.tape.trans (d3.trans hf.tape), h.chg.fr.output.trans (d4.trans hf.output), Nat.le_trans hf.size (by have := h.chg.fr.size; rw [d1] at this; exact this), fun k hk hn => ?_⟩, fun i hi => ?_, fun hk => ?_⟩, h.ne, fun g hg => ?_⟩
  · refine (h.chg.fr.block k (by rw [d1]; exact Nat.lt_of_lt_of_le hk hf.size) hn).trans ?_
    rw [d1]
    exact hf.block k hk (by simp)
  · refine (h.chg.cell i hi).trans ?_
    simp only [World.cell?, d1, e]
  · exact h.chg.blk (by rw [d1]; exact e.trans hk)
  · rcases h.old g hg with h1 | h1
    · exact .inl h1
    · rw [d1] at h1
      exact .inr (Nat.le_trans hf.size h1)

set_option maxRecDepth 20000 in
set_option maxHeartbeats 2000000 in
theorem prun_some (x : Nat) (X : PEng) (kv : Nat → Value) (n : Int) (k fuel : Nat) (fm : Nat → Option Int) (s : ByteArray) (R : List RuleP) (rv : Value) (B : Nat) (w : World) (h : PAt w x X kv) (hR : HRows w X kv) (hl : ∀ c, c < 60 → (X.hist c).length ≤ 9223372036854775807) (hf : findP X n = some k) (hM : MkAt (X.ses k).mks fm w) (hne : (X.ses k).mks ≠ some x)
    (hw : WOk (X.ses k) (fun c => histV (X.hist c) (X.ses k).snap)) (hsrc : X.src.1.1 = rv) (hrl : ∀ W, Fr (x :: (X.ses k).mks.toList) w W → RulesOwn W B s rv R) (hRW : ∀ r ∈ R, RulW s r) (hA : ∀ r ∈ R, (∀ p ∈ r.2.2, acOk s p = true) ∧ r.2.2.length ≤ 4) (hR9 : R.length ≤ 9) (hfu : fuel ≤ 99) (hsn0 : 0 ≤ (X.ses k).snap) (hmo : (X.ses k).snap + ((X.ses k).made + 100000) ≤ 9223372036854775807) :
    Calls Try.prog 19 #[.pointer (some ⟨x, 0, none⟩), .int .i64 n, .int .i64 fuel] w fun e w' => e = .returned (.tuple #[.int .i64 (runS s R (fun c => histV (X.hist c) (X.ses k).snap) fuel (X.ses k) fm).1.1, .int .i64 (runS s R (fun c => histV (X.hist c) (X.ses k).snap) fuel (X.ses k) fm).1.2, .int .i64 0]) ∧ ∃ m, RunAt x (3 + k * 244) (X.ses k).mks.toList (runS s R (fun c => histV (X.hist c) (X.ses k).snap) fuel (X.ses k) fm).2.1 (runS s R (fun c => histV (X.hist c) (X.ses k).snap) fuel (X.ses k) fm).2.2 m w w' := by
  have HF := hid (findp_any x X n w h.ses)
  rw [hf] at HF
  have hk : k < 8 := by
    unfold findP at hf
    split at hf
    · cases hf
    · exact (numberedP_some hf).1
  have c1 := (h.ses k hk).snap
  have hxl := h.lt
  have hc0 := h.rules
  rw [hsrc] at hc0
  obtain ⟨ra, rm, rc, rfl⟩ : ∃ a m c, rv = .slice a m c := by
    obtain ⟨xs, h1, _⟩ := hrl w (Fr.refl _ _)
    exact own_slice h1
  have erm : rm = R.length := by
    obtain ⟨xs, h1, _⟩ := hrl w (Fr.refl _ _)
    exact own_len h1
  subst erm
  obtain ⟨sn, hsn⟩ : ∃ sn, sn = (X.ses k).snap := ⟨_, rfl⟩
  rw [← hsn] at c1
  have HAT : Hid (∀ W, w.grownBy W none → Calls Try.prog 40 #[.pointer (some ⟨x, 1955, none⟩), .int .i64 sn] W fun e w' => (∃ sc, e = .returned (.agg sc) ∧ StArr sc 60 (fun c => histV (X.hist c) sn)) ∧ W.grownBy w' none) := hid (fun W hg => sat_any x 1955 X kv sn W (h.grown hg).store (fun c hc => ownsRow_grown hg (hR c hc)) hl)
  obtain ⟨cs, hb⟩ := h.block
  have HRUN : Hid (∀ (W : World) (cl : List Value), w.grownBy W none → StArr cl.toArray 60 (fun c => histV (X.hist c) sn) → Calls Try.prog 41 #[.pointer (some ⟨x, 3 + k * 244, none⟩), .slice ra R.length rc, .agg cl.toArray, .int .i64 fuel] W fun e w' => e = .returned (.tuple #[.int .i64 (runS s R (fun c => histV (X.hist c) (X.ses k).snap) fuel (X.ses k) fm).1.1, .int .i64 (runS s R (fun c => histV (X.hist c) (X.ses k).snap) fuel (X.ses k) fm).1.2]) ∧ ∃ m, RunAt x (3 + k * 244) (X.ses k).mks.toList (runS s R (fun c => histV (X.hist c) (X.ses k).snap) fuel (X.ses k) fm).2.1 (runS s R (fun c => histV (X.hist c) (X.ses k).snap) fuel (X.ses k) fm).2.2 m W w') := hid (fun W cl hg hcl => by
    rw [hsn] at hcl
    exact srun_any x (3 + k * 244) (X.ses k) fm (fun c => histV (X.hist c) (X.ses k).snap) cl s R ra rc B fuel W ((hg.block x hxl (by simp)).trans hb) ((h.grown hg).ses k hk) (hM.grown hg) hne hcl hw hRW hA hR9 (fun W2 hW2 => hrl W2 (((fr_none hg).mono (fun q hq => by cases hq)).trans hW2)) hfu hsn0 hmo)
  obtain ⟨hz, hzs⟩ := zero_of_info Try.zinfo109
  obtain ⟨z, hzz⟩ : ∃ z, z = zeroStates := ⟨_, rfl⟩
  have hzsz : Hid (z.size = 180) := hid (by rw [hzz]; exact zeroStates_size)
  rw [← hzz] at hz
  have HZS := hid hzs
  have HX0 := hid hc0
  have HGM0 : Hid (∀ g ∈ (X.ses k).mks.toList, g < w.heap.size) := hid (fun g hg => by
    cases hm : (X.ses k).mks with
    | none => rw [hm] at hg; cases hg
    | some g2 =>
      rw [hm] at hg hM
      simp at hg
      rw [hg]
      obtain ⟨Z, h1, _⟩ := hM
      exact lt_of_block h1)
  generalize hG : (X.ses k).mks.toList = G at HRUN HGM0 ⊢
  have HGM := HGM0
  generalize hRR : runS s R (fun c => histV (X.hist c) (X.ses k).snap) fuel (X.ses k) fm = rr at HRUN ⊢
  clear h hR hl hzz hzs hf hM hne hw hsrc hrl hRW hA hG hRR hmo hsn0 hsn hb
  have hxz : x ≠ w.heap.size := by omega
  have hf0 : (0 : Int) ≤ (fuel : Int) := by omega
  have hf9 : (fuel : Int) ≤ 99 := by omega
  go_enter Try.func19, Try.ntmps19
  go_wp2_with fail
  go_at_call 31
  refine HF.out.mono ?_
  rintro e w' ⟨rfl, rfl⟩
  simp only [placeV]
  go_wp2_with fail
  have hne := World.new_ne w' ⟨x, 3 + k * 244 + 1, none⟩ c1
  go_region_held3 (fun W => W.cell? ⟨x, 3 + k * 244 + 1, none⟩ = some (.int .i64 sn)) (first | go_keep | (exact grown_cell hg1 (by assumption)) | (rw [cell_setCells_ne (by first | exact hxn1 | exact hxz)]; assumption)) (first
    | (go_at_call 40
       refine (HAT.out _ (by first | exact grown_drewN (grown_refl _ _) 1 | exact grown_drewN (grown_alloc (grown_refl _ _) _) 1 | exact grown_alloc (grown_drewN (grown_refl _ _) 1) _)).mono ?_
       rintro e w1 ⟨⟨sc, rfl, hsc⟩, hg1⟩
       obtain ⟨cl, rfl⟩ : ∃ cl : List Value, sc = cl.toArray := ⟨sc.toList, by simp⟩
       have HSC := hid hsc
       have hcl : cl.length = 180 := by have := hsc.size; simpa using this
       have hinf : (Try.prog.info? 109).map (·.size) = some cl.length := HZS.out.trans (by rw [hcl])
       have hone : ∀ v ∈ cl, v.oneCell' = true := fun v hv => Array.all_eq_true_iff_forall_mem.1 hsc.one v (by simpa using hv)
       clear hsc
       have hxn1 : x ≠ w1.heap.size := by have := hg1.size; simp at this; omega
       have HthA : (w1.alloc (.cells z 109)).there w1.heap.size 0 180 := there_new w1 hzsz.out
       try (have HthB : w1.there w'.heap.size 0 180 := there_blk hzsz.out ((hg1.block w'.heap.size (by simp) (by simp)).trans (heap_alloc_new _ _)))))
  · have HR2 := hid (World.rangeAt_setCells_same _ w1.heap.size 0 cl (by rw [hcl]; exact HthA))
    have HG2 : Hid (w'.grownBy ((w1.alloc (.cells z 109)).setCells w1.heap.size 0 cl) none) := hid (grown_setCells (by have := hg1.size; simpa using this) _ _ (grown_alloc (grown_undrew (n := 1) hg1) _))
    have hs1 : w'.heap.size ≤ w1.heap.size := by have := hg1.size; simpa using this
    clear HthA hg1
    generalize (w1.alloc (.cells z 109)).setCells w1.heap.size 0 cl = W2 at HR2 HG2 ⊢
    have HX2 := hid (grown_cell HG2.out HX0.out)
    go_wp2_with fail
    refine wp_region_held_drew (S := fun W => W.rangeAt w1.heap.size 0 cl ∧ W.cell? ⟨x, 0, none⟩ = some (.slice ra R.length rc)) (by kernel_rfl) ⟨HR2.out, HX2.out⟩ (fun hHeld => ?_)
    refine wpAnyH_take (i := 0) (v := .pointer (some ⟨x, 3 + k * 244, none⟩)) rfl (by kernel_rfl) (by kernel_rfl) (by kernel_rfl) (fun _ _ _ h => h) (Or.inl ⟨by rfl, ?_⟩) hHeld ?_
    · intro W hSw
      have s2 := hSw.2
      go_simp
    refine wpAnyH_take (i := 1) (v := .pointer (some ⟨x, 0, none⟩)) rfl (by kernel_rfl) (by kernel_rfl) (by kernel_rfl) (fun _ _ _ h => h) (Or.inl ⟨by rfl, ?_⟩) hHeld ?_
    · intro W hSw
      have s2 := hSw.2
      go_simp
    refine wpAnyH_take (i := 2) (v := .pointer (some ⟨x, 0, none⟩)) rfl (by kernel_rfl) (by kernel_rfl) (by kernel_rfl) (fun _ _ _ h => h) (Or.inl ⟨by rfl, ?_⟩) hHeld ?_
    · intro W hSw
      have s2 := hSw.2
      go_simp
    refine wpAnyH_take (i := 3) (v := .pointer (some ⟨x, 0, none⟩)) rfl (by kernel_rfl) (by kernel_rfl) (by kernel_rfl) (fun _ _ _ h => h) (Or.inl ⟨by rfl, ?_⟩) hHeld ?_
    · intro W hSw
      have s2 := hSw.2
      go_simp
    refine wpAnyH_take (i := 4) (v := .slice ra R.length rc) rfl (by kernel_rfl) (by kernel_rfl) (by kernel_rfl) (fun _ _ _ h => h) (Or.inl ⟨by rfl, ?_⟩) hHeld ?_
    · intro W hSw
      have s2 := hSw.2
      go_simp
    refine wpAnyH_take (i := 5) (v := .agg cl.toArray) rfl (by kernel_rfl) (by kernel_rfl) (by kernel_rfl) (fun _ _ _ h => h) (yieldsIf_load_mid (by rfl) 109 _ rfl (w1.heap.size) 0 rfl cl _ (fun W hSw => hSw.1) Try.underlying109 rfl hinf) hHeld ?_
    refine wpAnyH_take (i := 6) (v := .int .i64 fuel) rfl (by kernel_rfl) (by kernel_rfl) (by kernel_rfl) (fun _ _ _ h => h) (Or.inl ⟨by rfl, ?_⟩) hHeld ?_
    · intro W hSw
      have s2 := hSw.2
      go_simp
    refine wpAnyH_ready (rs := [7]) (by kernel_rfl) (by simp) ?_
    refine AllReadyH.cons (o := _) rfl (fun K hK => ?_) AllReadyH.nil
    go_simp
    go_at_call 41
    refine (HRUN.out _ cl (grown_drewN HG2.out 1) HSC.out).mono ?_
    rintro e w3 ⟨rfl, hpost⟩
    obtain ⟨mm, hrat⟩ := hpost
    have hblt : w1.heap.size < W2.heap.size := by
      have hc := HR2.out 0 (cl[0]'(by omega)) (List.getElem?_eq_getElem (by omega))
      exact World.block_lt_of_cell? W2 _ hc
    have hbk : w3.heap[w1.heap.size]? = W2.heap[w1.heap.size]? := hrat.chg.fr.block _ hblt (fun hm => by
      have hsz := HG2.out.size
      rcases List.mem_cons.mp hm with e | e
      · omega
      · have := HGM.out _ e
        omega)
    have hr3 : w3.rangeAt w1.heap.size 0 cl := fun j v hv => by
      have := HR2.out j v hv
      simp only [World.cell?] at this ⊢
      rw [hbk]
      exact this
    have hx3 : w3.cell? ⟨x, 0, none⟩ = some (.slice ra R.length rc) := (hrat.chg.cell 0 (.inl (by omega))).trans HX2.out
    have HRAT : Hid (RunAt x (3 + k * 244) G rr.2.1 rr.2.2 mm w' w3) := hid (hrat.since HG2.out ⟨rfl, rfl, rfl, rfl⟩ hxl)
    clear hrat hbk
    go_wp2_with fail
    refine hK.out _ _ ⟨hr3, hx3⟩ (fun hHeld2 => ?_)
    clear hK K hHeld
    refine wpAnyH_take (i := 8) (v := .tuple #[.int .i64 rr.1.1, .int .i64 rr.1.2]) rfl (by kernel_rfl) (by kernel_rfl) (by kernel_rfl) (fun _ _ _ h => h) (Or.inl ⟨by rfl, ?_⟩) hHeld2 ?_
    · intro W hSw
      have s2 := hSw.2
      go_simp
    refine wpAnyH_take (i := 9) (v := .int .i64 rr.1.1) rfl (by kernel_rfl) (by kernel_rfl) (by kernel_rfl) (fun _ _ _ h => h) (Or.inl ⟨by rfl, ?_⟩) hHeld2 ?_
    · intro W hSw
      have s2 := hSw.2
      go_simp
    refine wpAnyH_take (i := 10) (v := .int .i64 rr.1.2) rfl (by kernel_rfl) (by kernel_rfl) (by kernel_rfl) (fun _ _ _ h => h) (Or.inl ⟨by rfl, ?_⟩) hHeld2 ?_
    · intro W hSw
      have s2 := hSw.2
      go_simp
    refine wpAnyH_take (i := 11) (v := .int .i64 rr.1.1) rfl (by kernel_rfl) (by kernel_rfl) (by kernel_rfl) (fun _ _ _ h => h) (Or.inl ⟨by rfl, ?_⟩) hHeld2 ?_
    · intro W hSw
      have s2 := hSw.2
      go_simp
    refine wpAnyH_take (i := 12) (v := .int .i64 rr.1.2) rfl (by kernel_rfl) (by kernel_rfl) (by kernel_rfl) (fun _ _ _ h => h) (Or.inl ⟨by rfl, ?_⟩) hHeld2 ?_
    · intro W hSw
      have s2 := hSw.2
      go_simp
    refine wpAnyH_done (by kernel_rfl) ?_ _
    clear hHeld2
    go_wp2_with fail
    go_ret3
    exact ⟨rfl, mm, HRAT.out⟩
  · have HR2 := hid (World.rangeAt_setCells_same _ w'.heap.size 0 cl (by rw [hcl]; exact HthB))
    have HG2 : Hid (w'.grownBy (w1.setCells w'.heap.size 0 cl) none) := hid (grown_setCells (Nat.le_refl _) _ _ (grown_trans (by first | exact grown_drewN (grown_alloc (grown_refl _ _) _) 1 | exact grown_alloc (grown_drewN (grown_refl _ _) 1) _) hg1))
    clear HthA HthB hg1
    generalize w1.setCells w'.heap.size 0 cl = W2 at HR2 HG2 ⊢
    have HX2 := hid (grown_cell HG2.out HX0.out)
    go_wp2_with fail
    refine wp_region_held_drew (S := fun W => W.rangeAt w'.heap.size 0 cl ∧ W.cell? ⟨x, 0, none⟩ = some (.slice ra R.length rc)) (by kernel_rfl) ⟨HR2.out, HX2.out⟩ (fun hHeld => ?_)
    refine wpAnyH_take (i := 0) (v := .pointer (some ⟨x, 3 + k * 244, none⟩)) rfl (by kernel_rfl) (by kernel_rfl) (by kernel_rfl) (fun _ _ _ h => h) (Or.inl ⟨by rfl, ?_⟩) hHeld ?_
    · intro W hSw
      have s2 := hSw.2
      go_simp
    refine wpAnyH_take (i := 1) (v := .pointer (some ⟨x, 0, none⟩)) rfl (by kernel_rfl) (by kernel_rfl) (by kernel_rfl) (fun _ _ _ h => h) (Or.inl ⟨by rfl, ?_⟩) hHeld ?_
    · intro W hSw
      have s2 := hSw.2
      go_simp
    refine wpAnyH_take (i := 2) (v := .pointer (some ⟨x, 0, none⟩)) rfl (by kernel_rfl) (by kernel_rfl) (by kernel_rfl) (fun _ _ _ h => h) (Or.inl ⟨by rfl, ?_⟩) hHeld ?_
    · intro W hSw
      have s2 := hSw.2
      go_simp
    refine wpAnyH_take (i := 3) (v := .pointer (some ⟨x, 0, none⟩)) rfl (by kernel_rfl) (by kernel_rfl) (by kernel_rfl) (fun _ _ _ h => h) (Or.inl ⟨by rfl, ?_⟩) hHeld ?_
    · intro W hSw
      have s2 := hSw.2
      go_simp
    refine wpAnyH_take (i := 4) (v := .slice ra R.length rc) rfl (by kernel_rfl) (by kernel_rfl) (by kernel_rfl) (fun _ _ _ h => h) (Or.inl ⟨by rfl, ?_⟩) hHeld ?_
    · intro W hSw
      have s2 := hSw.2
      go_simp
    refine wpAnyH_take (i := 5) (v := .agg cl.toArray) rfl (by kernel_rfl) (by kernel_rfl) (by kernel_rfl) (fun _ _ _ h => h) (yieldsIf_load_mid (by rfl) 109 _ rfl (w'.heap.size) 0 rfl cl _ (fun W hSw => hSw.1) Try.underlying109 rfl hinf) hHeld ?_
    refine wpAnyH_take (i := 6) (v := .int .i64 fuel) rfl (by kernel_rfl) (by kernel_rfl) (by kernel_rfl) (fun _ _ _ h => h) (Or.inl ⟨by rfl, ?_⟩) hHeld ?_
    · intro W hSw
      have s2 := hSw.2
      go_simp
    refine wpAnyH_ready (rs := [7]) (by kernel_rfl) (by simp) ?_
    refine AllReadyH.cons (o := _) rfl (fun K hK => ?_) AllReadyH.nil
    go_simp
    go_at_call 41
    refine (HRUN.out _ cl (grown_drewN HG2.out 1) HSC.out).mono ?_
    rintro e w3 ⟨rfl, hpost⟩
    obtain ⟨mm, hrat⟩ := hpost
    have hblt : w'.heap.size < W2.heap.size := by
      have hc := HR2.out 0 (cl[0]'(by omega)) (List.getElem?_eq_getElem (by omega))
      exact World.block_lt_of_cell? W2 _ hc
    have hbk : w3.heap[w'.heap.size]? = W2.heap[w'.heap.size]? := hrat.chg.fr.block _ hblt (fun hm => by
      have hsz := HG2.out.size
      rcases List.mem_cons.mp hm with e | e
      · omega
      · have := HGM.out _ e
        omega)
    have hr3 : w3.rangeAt w'.heap.size 0 cl := fun j v hv => by
      have := HR2.out j v hv
      simp only [World.cell?] at this ⊢
      rw [hbk]
      exact this
    have hx3 : w3.cell? ⟨x, 0, none⟩ = some (.slice ra R.length rc) := (hrat.chg.cell 0 (.inl (by omega))).trans HX2.out
    have HRAT : Hid (RunAt x (3 + k * 244) G rr.2.1 rr.2.2 mm w' w3) := hid (hrat.since HG2.out ⟨rfl, rfl, rfl, rfl⟩ hxl)
    clear hrat hbk
    go_wp2_with fail
    refine hK.out _ _ ⟨hr3, hx3⟩ (fun hHeld2 => ?_)
    clear hK K hHeld
    refine wpAnyH_take (i := 8) (v := .tuple #[.int .i64 rr.1.1, .int .i64 rr.1.2]) rfl (by kernel_rfl) (by kernel_rfl) (by kernel_rfl) (fun _ _ _ h => h) (Or.inl ⟨by rfl, ?_⟩) hHeld2 ?_
    · intro W hSw
      have s2 := hSw.2
      go_simp
    refine wpAnyH_take (i := 9) (v := .int .i64 rr.1.1) rfl (by kernel_rfl) (by kernel_rfl) (by kernel_rfl) (fun _ _ _ h => h) (Or.inl ⟨by rfl, ?_⟩) hHeld2 ?_
    · intro W hSw
      have s2 := hSw.2
      go_simp
    refine wpAnyH_take (i := 10) (v := .int .i64 rr.1.2) rfl (by kernel_rfl) (by kernel_rfl) (by kernel_rfl) (fun _ _ _ h => h) (Or.inl ⟨by rfl, ?_⟩) hHeld2 ?_
    · intro W hSw
      have s2 := hSw.2
      go_simp
    refine wpAnyH_take (i := 11) (v := .int .i64 rr.1.1) rfl (by kernel_rfl) (by kernel_rfl) (by kernel_rfl) (fun _ _ _ h => h) (Or.inl ⟨by rfl, ?_⟩) hHeld2 ?_
    · intro W hSw
      have s2 := hSw.2
      go_simp
    refine wpAnyH_take (i := 12) (v := .int .i64 rr.1.2) rfl (by kernel_rfl) (by kernel_rfl) (by kernel_rfl) (fun _ _ _ h => h) (Or.inl ⟨by rfl, ?_⟩) hHeld2 ?_
    · intro W hSw
      have s2 := hSw.2
      go_simp
    refine wpAnyH_done (by kernel_rfl) ?_ _
    clear hHeld2
    go_wp2_with fail
    go_ret3
    exact ⟨rfl, mm, HRAT.out⟩

end Go.Proofs.Ythlhbjnkohinmaa

/- The program's Run where it is refused. -/
namespace Go.Proofs.Ythlhbjnkohinmaa
open Go.RowKit

set_option maxRecDepth 20000 in
set_option maxHeartbeats 2000000 in
theorem prun_none (x : Nat) (X : PEng) (kv : Nat → Value) (n fuel : Int) (w : World) (h : PAt w x X kv) (hf : findP X n = none) :
    Calls Try.prog 19 #[.pointer (some ⟨x, 0, none⟩), .int .i64 n, .int .i64 fuel] w fun e w' => e = .returned (.tuple #[.int .i64 0, .int .i64 0, .int .i64 6]) ∧ w.grownBy w' none := by
  have HF := hid (findp_any x X n w h.ses)
  rw [hf] at HF
  clear h hf
  go_enter Try.func19, Try.ntmps19
  go_wp2_with fail
  go_at_call 31
  refine HF.out.mono ?_
  rintro e w' ⟨rfl, rfl⟩
  simp only [placeV]
  go_wp2
  go_ret3
  exact ⟨rfl, grown_refl _ _⟩

set_option maxRecDepth 20000 in
set_option maxHeartbeats 2000000 in
theorem prun_fuel (x : Nat) (X : PEng) (kv : Nat → Value) (n fuel : Int) (k : Nat) (w : World) (h : PAt w x X kv) (hf : findP X n = some k) (hfu : fuel < 0 ∨ 99 < fuel) :
    Calls Try.prog 19 #[.pointer (some ⟨x, 0, none⟩), .int .i64 n, .int .i64 fuel] w fun e w' => e = .returned (.tuple #[.int .i64 0, .int .i64 0, .int .i64 9]) ∧ w.grownBy w' none := by
  have HF := hid (findp_any x X n w h.ses)
  rw [hf] at HF
  clear h hf
  by_cases h0 : fuel < 0
  · clear hfu
    go_enter Try.func19, Try.ntmps19
    go_wp2_with fail
    go_at_call 31
    refine HF.out.mono ?_
    rintro e w' ⟨rfl, rfl⟩
    simp only [placeV]
    go_wp2_with fail
    go_ret3
    exact ⟨rfl, grown_refl _ _⟩
  · have h1 : 99 < fuel := by omega
    have h2 : 0 ≤ fuel := by omega
    clear hfu h0
    go_enter Try.func19, Try.ntmps19
    go_wp2_with fail
    go_at_call 31
    refine HF.out.mono ?_
    rintro e w' ⟨rfl, rfl⟩
    simp only [placeV]
    go_wp2_with fail
    go_ret3
    exact ⟨rfl, grown_refl _ _⟩

end Go.Proofs.Ythlhbjnkohinmaa

/- What is known of rules that were read, for the program's matching and runs. -/
namespace Go.Proofs.Ythlhbjnkohinmaa
open Go.RowKit

theorem cdsAllOk {s : ByteArray} {i : Nat} {L : List Nat} {j : Nat} {ok : Bool} (h : Cds s i L j ok) : ok = true → ∀ p ∈ L, cdOk s p = true := by
  refine Cds.ind (M := fun i L j ok => ok = true → ∀ p ∈ L, cdOk s p = true) ?_ ?_ ?_ ?_ ?_ h
  · intro _ _ h
    cases h
  · intro _ _ _ h
    cases h
  · intro _ _ h _ _ p hp
    rw [List.mem_singleton.mp hp]
    exact h
  · intro _ _ _ _ _ h
    cases h
  · intro _ _ _ _ _ h _ _ ih e p hp
    rcases List.mem_cons.mp hp with rfl | hp
    · exact h
    · exact ih e p hp
theorem acsAllOk {s : ByteArray} {i : Nat} {L : List Nat} {j : Nat} {ok : Bool} (h : Acs s i L j ok) : ok = true → ∀ p ∈ L, acOk s p = true := by
  refine Acs.ind (M := fun i L j ok => ok = true → ∀ p ∈ L, acOk s p = true) ?_ ?_ ?_ ?_ ?_ h
  · intro _ _ h
    cases h
  · intro _ _ _ h
    cases h
  · intro _ _ h _ _ p hp
    rw [List.mem_singleton.mp hp]
    exact h
  · intro _ _ _ _ _ h
    cases h
  · intro _ _ _ _ _ h _ _ ih e p hp
    rcases List.mem_cons.mp hp with rfl | hp
    · exact h
    · exact ih e p hp
theorem rlsAllOk {s : ByteArray} {i : Nat} {R : List RuleP} {j : Nat} {ok : Bool} (h : Rls s i R j ok) : ok = true → ∀ r ∈ R, digB (bt s r.1) = true ∧ (∀ p ∈ r.2.1, cdOk s p = true) ∧ ∀ p ∈ r.2.2, acOk s p = true := by
  refine Rls.ind (M := fun i R j ok => ok = true → ∀ r ∈ R, digB (bt s r.1) = true ∧ (∀ p ∈ r.2.1, cdOk s p = true) ∧ ∀ p ∈ r.2.2, acOk s p = true) ?_ ?_ ?_ h
  · intro _ _ _ r hr
    cases hr
  · intro _ _ _ _ _ _ h
    cases h
  · intro i L K j R j' ok _ h1 _ ih e r hr
    rcases List.mem_cons.mp hr with rfl | hr
    · obtain ⟨j1, h3, _, h4, h5⟩ := h1.yes
      exact ⟨h3, cdsAllOk h4 rfl, acsAllOk h5 rfl⟩
    · exact ih e r hr
/-- What the walks over rules need. -/
structure RulesP (s : ByteArray) (R : List RuleP) : Prop where
  nine : R.length ≤ 9
  walk : ∀ r ∈ R, RulW s r
  acts : ∀ r ∈ R, (∀ p ∈ r.2.2, acOk s p = true) ∧ r.2.2.length ≤ 4
  dig : ∀ r ∈ R, digB (bt s r.1) = true
theorem read_rulesP {s : ByteArray} {R : List RuleP} (h : ReadAns s 0 0 (some R)) : RulesP s R := by
  rcases h with ⟨_, h, _, _⟩ | ⟨_, _, _, _, h, _⟩ | ⟨_, _, _, _, _, _, h, _⟩ | ⟨_, _, _, _, _, _, _, h, _⟩ | ⟨R', j, h1, h2, h3, h4, _, _, h5⟩
  · cases h
  · cases h
  · cases h
  · cases h
  · cases h5
    have hok := rlsAllOk h2 rfl
    have hl : R.length ≤ 9 := by
      by_cases hh : R.length ≤ 9
      · exact hh
      · have := (ov_len h3 9 (by omega)).2.2
        omega
    refine ⟨hl, fun r hr => ?_, fun r hr => ?_, fun r hr => (hok r hr).1⟩
    · obtain ⟨k, hk, e⟩ := List.getElem_of_mem hr
      have h6 := h3 k hk
      have h7 := (ov_len h3 k hk).1
      rw [e] at h7
      refine ⟨(hok r hr).2.1, ?_, by omega⟩
      by_cases hp : patCount s r.2.1 ≤ 3
      · exact hp
      · refine absurd ⟨hk, .inr ?_⟩ h6
        rw [e]
        unfold overB
        simp
        omega
    · obtain ⟨k, hk, e⟩ := List.getElem_of_mem hr
      have h7 := (ov_len h3 k hk).2.1
      rw [e] at h7
      exact ⟨(hok r hr).2.2, h7⟩

end Go.Proofs.Ythlhbjnkohinmaa

/- The program's engine without where its marks lie; what is known of it behind some acts. -/
namespace Go.Proofs.Ythlhbjnkohinmaa
open Go.RowKit

/-- Without where its marks lie (and, of an engine, where its rules do). -/
def PSes.bare (S : PSes) : PSes := { S with mks := none }
def PEng.plain (X : PEng) : PEng := { X with src := ((.bool false, X.src.1.2), X.src.2), ses := fun k => (X.ses k).bare }
abbrev Mks := Nat → Nat → Option Int
def noMk : Nat → Option Int := fun _ => none
/-- The marks behind a call that ends or begins sessions, and fires nothing. -/
def nextF (X X' : PEng) (F : Mks) : Mks := fun k => if (X'.ses k).num = (X.ses k).num then F k else noMk
/-- What a call may do to marks: those of a session that goes on stay, the others go. -/
def MksTo (X X' : PEng) : Prop := ∀ k, k < 8 → ((X'.ses k).num = (X.ses k).num → (X'.ses k).mks = (X.ses k).mks) ∧ ((X'.ses k).num ≠ (X.ses k).num → (X'.ses k).mks = none)
theorem MksTo.same {X X' : PEng} (h : X'.ses = X.ses) : MksTo X X' := fun k _ => ⟨fun _ => by rw [h], fun e => absurd (by rw [h]) e⟩
theorem MksTo.set {X X' : PEng} {k : Nat} {S : PSes} (h : X'.ses = upd X.ses k S) (h1 : S.num = (X.ses k).num → S.mks = (X.ses k).mks) (h2 : S.num ≠ (X.ses k).num → S.mks = none) : MksTo X X' := by
  intro j _
  rw [h]
  by_cases e : j = k
  · subst e
    rw [upd_same]
    exact ⟨h1, h2⟩
  · rw [upd_ne _ _ _ e]
    exact ⟨fun _ => rfl, fun c => absurd rfl c⟩
theorem plain_setSes (X : PEng) (k : Nat) (S : PSes) : (X.setSes k S).plain = X.plain.setSes k S.bare := by
  unfold PEng.plain PEng.setSes
  congr 1
  funext j
  simp only [upd]
  split <;> rfl
theorem findP_spec {X : PEng} {n : Int} {k : Nat} (h : findP X n = some k) : k < 8 ∧ (X.ses k).num = n ∧ 1 ≤ n := by
  unfold findP at h
  split at h
  · cases h
  · obtain ⟨h1, h2⟩ := numberedP_some h
    exact ⟨h1, h2, by omega⟩

theorem popen_plain (X : PEng) (ho : 0 ≤ X.opened) : (popenF X).1 = (popenF X.plain).1 ∧ (popenF X).2.plain = (popenF X.plain).2 ∧ (popenF X).2.src = X.src ∧ MksTo X (popenF X).2 := by
  have e : numberedP X.plain 0 = numberedP X 0 := rfl
  unfold popenF
  rw [e]
  cases hf : numberedP X 0 with
  | none => exact ⟨rfl, rfl, rfl, .same rfl⟩
  | some k =>
    obtain ⟨_, h0⟩ := numberedP_some hf
    refine ⟨rfl, ?_, rfl, .set (k := k) (S := .new (X.opened + 1) X.latest) rfl (fun h => ?_) (fun _ => rfl)⟩
    · unfold PEng.plain
      simp only []
      congr 1
      funext j
      simp only [upd]
      split <;> rfl
    · have : X.opened + 1 = 0 := by rw [← h0]; exact h
      omega
theorem pput_plain (X : PEng) (n : Int) (s : ByteArray) : (pputF X n s).1 = (pputF X.plain n s).1 ∧ (pputF X n s).2.plain = (pputF X.plain n s).2 ∧ (pputF X n s).2.src = X.src ∧ MksTo X (pputF X n s).2 := by
  have e : findP X.plain n = findP X n := rfl
  unfold pputF
  rw [e]
  cases hf : findP X n with
  | none => exact ⟨rfl, rfl, rfl, .same rfl⟩
  | some k =>
    cases factB s with
    | false => exact ⟨rfl, rfl, rfl, .same rfl⟩
    | true => exact ⟨rfl, plain_setSes _ _ _, rfl, .set rfl (fun _ => rfl) (fun h => absurd rfl h)⟩
theorem pclear_plain (X : PEng) (n : Int) (s : ByteArray) : (pclearF X n s).1 = (pclearF X.plain n s).1 ∧ (pclearF X n s).2.plain = (pclearF X.plain n s).2 ∧ (pclearF X n s).2.src = X.src ∧ MksTo X (pclearF X n s).2 := by
  have e : findP X.plain n = findP X n := rfl
  unfold pclearF
  rw [e]
  cases hf : findP X n with
  | none => exact ⟨rfl, rfl, rfl, .same rfl⟩
  | some k =>
    cases cellB s with
    | false => exact ⟨rfl, rfl, rfl, .same rfl⟩
    | true => exact ⟨rfl, plain_setSes _ _ _, rfl, .set rfl (fun _ => rfl) (fun h => absurd rfl h)⟩
theorem mks_zero {X X' : PEng} {n : Int} {k : Nat} (hf : findP X n = some k) (h : X'.ses = upd X.ses k .zero) : MksTo X X' := by
  obtain ⟨_, h1, h2⟩ := findP_spec hf
  refine .set h (fun e => ?_) (fun _ => rfl)
  have : (0 : Int) = (X.ses k).num := e
  omega
theorem pabort_plain (X : PEng) (n : Int) : (pabortF X n).1 = (pabortF X.plain n).1 ∧ (pabortF X n).2.plain = (pabortF X.plain n).2 ∧ (pabortF X n).2.src = X.src ∧ MksTo X (pabortF X n).2 := by
  have e : findP X.plain n = findP X n := rfl
  unfold pabortF
  rw [e]
  cases hf : findP X n with
  | none => exact ⟨rfl, rfl, rfl, .same rfl⟩
  | some k => exact ⟨rfl, plain_setSes _ _ _, rfl, mks_zero hf rfl⟩
theorem kept_plain (X : PEng) (n : Nat) : keptN X.plain n = keptN X n := keptN_same (X := X) (Y := X.plain) rfl n
theorem old_plain (X : PEng) : ∀ k, oldN X.plain k = oldN X k
  | 0 => rfl
  | k + 1 => by
    unfold oldN
    rw [old_plain X k]
    rfl
theorem swept_plain (X : PEng) (t : Int) : (X.swept t).plain = X.plain.swept t := rfl
theorem psweep_plain (X : PEng) : (psweepF X).1 = (psweepF X.plain).1 ∧ (psweepF X).2.plain = (psweepF X.plain).2 ∧ (psweepF X).2.src = X.src ∧ MksTo X (psweepF X).2 := by
  unfold psweepF
  rw [old_plain, kept_plain, ← swept_plain, kept_plain]
  exact ⟨rfl, rfl, rfl, .same rfl⟩
theorem writ_bare (S : PSes) : ∀ n, writN S.bare n = writN S n
  | 0 => rfl
  | n + 1 => by
    unfold writN
    rw [writ_bare S n]
    rfl
theorem room_plain (X : PEng) (m : Nat) : (roomF X m).1 = (roomF X.plain m).1 ∧ (roomF X m).2.plain = (roomF X.plain m).2 ∧ (roomF X m).2.src = X.src ∧ (roomF X m).2.ses = X.ses := by
  have e : X.plain.room = X.room := rfl
  unfold roomF
  rw [old_plain, kept_plain, ← swept_plain, kept_plain, e]
  split
  · exact ⟨rfl, rfl, rfl, rfl⟩
  · exact ⟨rfl, rfl, rfl, rfl⟩
theorem plain_commit (X : PEng) (S : PSes) : (X.commit S).plain = X.plain.commit S.bare := rfl
theorem pcommit_plain (X : PEng) (n : Int) : (pcommitG X n).1 = (pcommitG X.plain n).1 ∧ (pcommitG X n).2.plain = (pcommitG X.plain n).2 ∧ (pcommitG X n).2.src = X.src ∧ MksTo X (pcommitG X n).2 := by
  have e : findP X.plain n = findP X n := rfl
  unfold pcommitG
  rw [e]
  cases hf : findP X n with
  | none => exact ⟨rfl, rfl, rfl, .same rfl⟩
  | some k =>
    simp only []
    have e1 : hasW (X.plain.ses k) = hasW (X.ses k) := rfl
    have e2 : clash X.plain (X.plain.ses k) = clash X (X.ses k) := rfl
    have e3 : writN (X.plain.ses k) 60 = writN (X.ses k) 60 := writ_bare _ _
    rw [e1, e2, e3]
    obtain ⟨r1, r2, r3, r4⟩ := room_plain X (writN (X.ses k) 60)
    rw [← r1, ← r2]
    cases hasW (X.ses k) with
    | false => exact ⟨rfl, plain_setSes _ _ _, rfl, mks_zero hf rfl⟩
    | true =>
      cases clash X (X.ses k) with
      | true => exact ⟨rfl, plain_setSes _ _ _, rfl, mks_zero hf rfl⟩
      | false =>
        cases (roomF X (writN (X.ses k) 60)).1 with
        | false => exact ⟨rfl, rfl, r3, .same r4⟩
        | true =>
          refine ⟨rfl, ?_, r3, mks_zero hf ?_⟩
          · show ((((roomF X (writN (X.ses k) 60)).2.setSes k .zero).commit (X.ses k))).plain = _
            rw [plain_commit, plain_setSes]
            rfl
          · show upd (roomF X (writN (X.ses k) 60)).2.ses k .zero = _
            rw [r4]

/-- What is known of an engine behind i acts. -/
structure Fit (i : Nat) (X : PEng) : Prop where
  opened : 0 ≤ X.opened ∧ X.opened ≤ i
  latest : 0 ≤ X.latest ∧ X.latest ≤ i
  num : ∀ k, k < 8 → 0 ≤ (X.ses k).num ∧ (X.ses k).num ≤ X.opened
  uniq : ∀ j k, j < 8 → k < 8 → (X.ses j).num = (X.ses k).num → (X.ses j).num = 0 ∨ j = k
  snap : ∀ k, k < 8 → 0 ≤ (X.ses k).snap ∧ (X.ses k).snap ≤ X.latest
  made : ∀ k, k < 8 → 0 ≤ (X.ses k).made ∧ (X.ses k).made ≤ 400 * i
  wr : ∀ k, k < 8 → ∀ c v, (X.ses k).wr c = some (some v) → 0 ≤ v ∧ v ≤ 9
  inc : ∀ c, Inc (X.hist c)
  his : ∀ c, ∀ p ∈ X.hist c, p.1 ≤ X.latest ∧ ∀ v, p.2 = some v → 0 ≤ v ∧ v ≤ 9
  kept : (keptN X 60 : Int) ≤ X.room
  room : 1 ≤ X.room ∧ X.room ≤ 999
theorem kept_keep {X Y : PEng} (h : (keptN X 60 : Int) ≤ X.room) (e : Y.hist = X.hist) (r : Y.room = X.room) : (keptN Y 60 : Int) ≤ Y.room := by rw [keptN_same e, r]; exact h
theorem Fit.mono {i j : Nat} {X : PEng} (h : Fit i X) (hij : i ≤ j) : Fit j X :=
  ⟨by have := h.opened; omega, by have := h.latest; omega, h.num, h.uniq, h.snap, fun k hk => by have := h.made k hk; omega, h.wr, h.inc, h.his, h.kept, h.room⟩
theorem Fit.setSes {i : Nat} {X : PEng} (h : Fit i X) {k : Nat} {S : PSes} (hk : k < 8) (hnum : S.num = (X.ses k).num ∨ S.num = 0) (hsn : 0 ≤ S.snap ∧ S.snap ≤ X.latest) (hmd : 0 ≤ S.made ∧ S.made ≤ 400 * i) (hwr : ∀ c v, S.wr c = some (some v) → 0 ≤ v ∧ v ≤ 9) : Fit i (X.setSes k S) := by
  have hs : ∀ j, j ≠ k → (X.setSes k S).ses j = X.ses j := fun j e => upd_ne _ _ _ e
  have hself : (X.setSes k S).ses k = S := upd_same _ _ _
  refine ⟨h.opened, h.latest, fun j hj => ?_, fun j l hj hl he => ?_, fun j hj => ?_, fun j hj => ?_, fun j hj => ?_, h.inc, h.his, kept_keep h.kept rfl rfl, h.room⟩
  · by_cases e : j = k
    · subst e
      rw [hself]
      have h1 := h.num j hj
      have h2 := h.opened
      show 0 ≤ S.num ∧ S.num ≤ X.opened
      rcases hnum with e | e <;> omega
    · rw [hs j e]
      exact h.num j hj
  · by_cases e : j = k
    · by_cases e2 : l = k
      · exact .inr (e.trans e2.symm)
      · rw [e, hself, hs l e2] at he
        rw [e, hself]
        rcases hnum with e3 | e3
        · rw [e3] at he ⊢
          rcases h.uniq k l hk hl he with h1 | h1
          · exact .inl h1
          · exact absurd h1.symm e2
        · exact .inl e3
    · by_cases e2 : l = k
      · rw [e2, hself, hs j e] at he
        rw [hs j e]
        rcases hnum with e3 | e3
        · rw [e3] at he
          rcases h.uniq j k hj hk he with h1 | h1
          · exact .inl h1
          · exact absurd h1 e
        · exact .inl (by rw [he]; exact e3)
      · rw [hs j e, hs l e2] at he
        rw [hs j e]
        exact h.uniq j l hj hl he
  · by_cases e : j = k
    · subst e; rw [hself]; exact hsn
    · rw [hs j e]; exact h.snap j hj
  · by_cases e : j = k
    · subst e; rw [hself]; exact hmd
    · rw [hs j e]; exact h.made j hj
  · by_cases e : j = k
    · subst e; rw [hself]; exact hwr
    · rw [hs j e]; exact h.wr j hj
theorem Fit.zero {i : Nat} {X : PEng} (h : Fit i X) {k : Nat} (hk : k < 8) : Fit i (X.setSes k .zero) :=
  h.setSes hk (.inr rfl) ⟨Int.le_refl 0, h.latest.1⟩ ⟨Int.le_refl 0, by show (0 : Int) ≤ 400 * i; omega⟩ (fun c v e => by cases e)
theorem Fit.write {i : Nat} {X : PEng} (h : Fit i X) {k : Nat} (hk : k < 8) (c : Nat) (v : Option Int) (hv : ∀ u, v = some u → 0 ≤ u ∧ u ≤ 9) : Fit (i + 1) (X.setSes k ((X.ses k).put c v)) := by
  refine (h.mono (Nat.le_succ i)).setSes hk (.inl rfl) (h.snap k hk) ?_ (fun d u e => ?_)
  · have := h.made k hk
    show 0 ≤ (X.ses k).made + 1 ∧ (X.ses k).made + 1 ≤ 400 * ((i + 1 : Nat) : Int)
    omega
  · have e' : upd (X.ses k).wr c (some v) d = some (some u) := e
    unfold upd at e'
    split at e'
    · simp only [Option.some.injEq] at e'
      exact hv u e'
    · exact h.wr k hk d u e'
theorem Fit.open {i : Nat} {X : PEng} (h : Fit i X) : Fit (i + 1) (popenF X).2 := by
  unfold popenF
  cases hf : numberedP X 0 with
  | none => exact h.mono (Nat.le_succ i)
  | some k =>
    obtain ⟨hk, h0⟩ := numberedP_some hf
    have ho := h.opened
    have hl := h.latest
    have hs : ∀ j, j ≠ k → upd X.ses k (.new (X.opened + 1) X.latest) j = X.ses j := fun j e => upd_ne _ _ _ e
    have hself : upd X.ses k (.new (X.opened + 1) X.latest) k = .new (X.opened + 1) X.latest := upd_same _ _ _
    refine ⟨?_, ?_, fun j hj => ?_, fun j l hj hl he => ?_, fun j hj => ?_, fun j hj => ?_, fun j hj => ?_, h.inc, h.his, kept_keep h.kept rfl rfl, h.room⟩
    · show 0 ≤ X.opened + 1 ∧ X.opened + 1 ≤ ((i + 1 : Nat) : Int); omega
    · show 0 ≤ X.latest ∧ X.latest ≤ ((i + 1 : Nat) : Int); omega
    · show 0 ≤ (upd X.ses k _ j).num ∧ (upd X.ses k _ j).num ≤ X.opened + 1
      by_cases e : j = k
      · subst e
        rw [hself]
        show 0 ≤ X.opened + 1 ∧ X.opened + 1 ≤ X.opened + 1
        omega
      · rw [hs j e]
        have := h.num j hj
        omega
    · have he' : (upd X.ses k (.new (X.opened + 1) X.latest) j).num = (upd X.ses k (.new (X.opened + 1) X.latest) l).num := he
      show (upd X.ses k _ j).num = 0 ∨ j = l
      by_cases e : j = k
      · by_cases e2 : l = k
        · exact .inr (e.trans e2.symm)
        · rw [e, hself, hs l e2] at he'
          have := h.num l hl
          have h3 : X.opened + 1 = (X.ses l).num := he'
          omega
      · by_cases e2 : l = k
        · rw [e2, hself, hs j e] at he'
          have := h.num j hj
          have h3 : (X.ses j).num = X.opened + 1 := he'
          omega
        · rw [hs j e, hs l e2] at he'
          rw [hs j e]
          exact h.uniq j l hj hl he'
    · show 0 ≤ (upd X.ses k _ j).snap ∧ (upd X.ses k _ j).snap ≤ X.latest
      by_cases e : j = k
      · subst e; rw [hself]; exact ⟨hl.1, Int.le_refl _⟩
      · rw [hs j e]; exact h.snap j hj
    · show 0 ≤ (upd X.ses k _ j).made ∧ (upd X.ses k _ j).made ≤ 400 * ((i + 1 : Nat) : Int)
      by_cases e : j = k
      · subst e; rw [hself]; show (0 : Int) ≤ 0 ∧ (0 : Int) ≤ 400 * ((i + 1 : Nat) : Int); omega
      · rw [hs j e]; have := h.made j hj; omega
    · show ∀ c v, (upd X.ses k _ j).wr c = some (some v) → 0 ≤ v ∧ v ≤ 9
      by_cases e : j = k
      · subst e; rw [hself]; intro c v hv; cases hv
      · rw [hs j e]; exact h.wr j hj
theorem Fit.put {i : Nat} {X : PEng} (h : Fit i X) (n : Int) (s : ByteArray) : Fit (i + 1) (pputF X n s).2 := by
  unfold pputF
  cases hf : findP X n with
  | none => exact h.mono (Nat.le_succ i)
  | some k =>
    cases hb : factB s with
    | false => exact h.mono (Nat.le_succ i)
    | true =>
      refine h.write (findP_spec hf).1 _ _ (fun u e => ?_)
      unfold factB at hb
      simp only [Bool.and_eq_true] at hb
      have := hb.2
      simp [digB] at this
      simp only [Option.some.injEq] at e
      omega
theorem Fit.clear {i : Nat} {X : PEng} (h : Fit i X) (n : Int) (s : ByteArray) : Fit (i + 1) (pclearF X n s).2 := by
  unfold pclearF
  cases hf : findP X n with
  | none => exact h.mono (Nat.le_succ i)
  | some k =>
    cases cellB s with
    | false => exact h.mono (Nat.le_succ i)
    | true => exact h.write (findP_spec hf).1 _ _ (fun u e => by cases e)
theorem Fit.abort {i : Nat} {X : PEng} (h : Fit i X) (n : Int) : Fit (i + 1) (pabortF X n).2 := by
  unfold pabortF
  cases hf : findP X n with
  | none => exact h.mono (Nat.le_succ i)
  | some k => exact (h.mono (Nat.le_succ i)).zero (findP_spec hf).1
theorem Fit.swept {i : Nat} {X : PEng} (h : Fit i X) (t : Int) : Fit i (X.swept t) :=
  ⟨h.opened, h.latest, h.num, h.uniq, h.snap, h.made, h.wr, fun c => (h.inc c).swept t, fun c p hp => h.his c p (List.filter_sublist.subset hp), by have := kept_swept_le X t 60; have := h.kept; show (keptN (X.swept t) 60 : Int) ≤ X.room; omega, h.room⟩
theorem Fit.sweep {i : Nat} {X : PEng} (h : Fit i X) : Fit (i + 1) (psweepF X).2 := (h.mono (Nat.le_succ i)).swept _
theorem Fit.roomed {i : Nat} {X : PEng} (h : Fit i X) (m : Nat) : Fit i (roomF X m).2 := by
  unfold roomF
  split
  · exact h
  · exact h.swept _
theorem kept_comm (X : PEng) (P : PSes) : ∀ n, keptN (X.commit P) n = keptN X n + writN P n
  | 0 => rfl
  | n + 1 => by
    have h1 : keptN (X.commit P) (n + 1) = keptN (X.commit P) n + ((X.commit P).hist n).length := rfl
    have h2 : keptN X (n + 1) = keptN X n + (X.hist n).length := rfl
    have h3 : writN P (n + 1) = writN P n + (if (P.wr n).isSome then 1 else 0) := rfl
    have h4 : ((X.commit P).hist n).length = (X.hist n).length + (if (P.wr n).isSome then 1 else 0) := by
      show (match P.wr n with | some v => X.hist n ++ [(X.latest + 1, v)] | none => X.hist n).length = _
      cases P.wr n <;> simp
    rw [h1, h2, h3, h4, kept_comm X P n]
    omega
theorem room_fits {X : PEng} {m : Nat} (h : (roomF X m).1 = true) : ((keptN (roomF X m).2 60 + m : Nat) : Int) ≤ X.room := by
  unfold roomF at h ⊢
  split
  · rename_i hr
    exact hr
  · rename_i hr
    rw [if_neg hr] at h
    exact of_decide_eq_true h
theorem Fit.committed {i : Nat} {X : PEng} (h : Fit i X) {S : PSes} (hw : ∀ c v, S.wr c = some (some v) → 0 ≤ v ∧ v ≤ 9) (hr : ((keptN X 60 + writN S 60 : Nat) : Int) ≤ X.room) : Fit (i + 1) (X.commit S) := by
  have hl := h.latest
  have hh : ∀ c, (X.commit S).hist c = X.hist c ∨ ∃ v, S.wr c = some v ∧ (X.commit S).hist c = X.hist c ++ [(X.latest + 1, v)] := fun c => by
    show (match S.wr c with | some v => X.hist c ++ [(X.latest + 1, v)] | none => X.hist c) = _ ∨ _
    cases hc : S.wr c with
    | none => exact .inl rfl
    | some v =>
      refine .inr ⟨v, rfl, ?_⟩
      show (match S.wr c with | some v => X.hist c ++ [(X.latest + 1, v)] | none => X.hist c) = _
      rw [hc]
  refine ⟨by have := h.opened; show 0 ≤ X.opened ∧ X.opened ≤ ((i + 1 : Nat) : Int); omega, by show 0 ≤ X.latest + 1 ∧ X.latest + 1 ≤ ((i + 1 : Nat) : Int); omega, h.num, h.uniq, fun k hk => by
    have := h.snap k hk
    show 0 ≤ (X.ses k).snap ∧ (X.ses k).snap ≤ X.latest + 1
    omega, fun k hk => by
    have := h.made k hk
    show 0 ≤ (X.ses k).made ∧ (X.ses k).made ≤ 400 * ((i + 1 : Nat) : Int)
    omega, h.wr, fun c => ?_, fun c p hp => ?_, by rw [kept_comm]; exact hr, h.room⟩
  · rcases hh c with e | ⟨v, _, e⟩
    · rw [e]; exact h.inc c
    · rw [e]
      exact (h.inc c).snoc (fun q hq => by have := (h.his c q hq).1; show q.1 < X.latest + 1; omega) (by show 1 ≤ X.latest + 1; omega)
  · show p.1 ≤ X.latest + 1 ∧ _
    rcases hh c with e | ⟨v, hv, e⟩
    · rw [e] at hp
      have := h.his c p hp
      exact ⟨by omega, this.2⟩
    · rw [e] at hp
      rcases List.mem_append.mp hp with hp | hp
      · have := h.his c p hp
        exact ⟨by omega, this.2⟩
      · rw [List.mem_singleton] at hp
        subst hp
        exact ⟨Int.le_refl _, fun u hu => hw c u (by rw [hv]; exact congrArg some hu)⟩
theorem Fit.commit {i : Nat} {X : PEng} (h : Fit i X) (n : Int) : Fit (i + 1) (pcommitG X n).2 := by
  unfold pcommitG
  cases hf : findP X n with
  | none => exact h.mono (Nat.le_succ i)
  | some k =>
    have hk := (findP_spec hf).1
    simp only []
    cases hasW (X.ses k) with
    | false => exact (h.mono (Nat.le_succ i)).zero hk
    | true =>
      cases clash X (X.ses k) with
      | true => exact (h.mono (Nat.le_succ i)).zero hk
      | false =>
        cases hrm : (roomF X (writN (X.ses k) 60)).1 with
        | false => exact (h.mono (Nat.le_succ i)).roomed _
        | true =>
          have hfit := room_fits hrm
          obtain ⟨_, _, r3, _⟩ := room_plain X (writN (X.ses k) 60)
          refine ((h.roomed _).zero hk).committed (h.wr k hk) ?_
          rw [keptN_same (X := (roomF X (writN (X.ses k) 60)).2) (Y := (roomF X (writN (X.ses k) 60)).2.setSes k .zero) rfl]
          show _ ≤ (roomF X (writN (X.ses k) 60)).2.src.1.2
          rw [r3]
          exact hfit
theorem Fit.plain {i : Nat} {X : PEng} : Fit i X ↔ Fit i X.plain :=
  ⟨fun h => ⟨h.opened, h.latest, h.num, h.uniq, h.snap, h.made, h.wr, h.inc, h.his, by rw [kept_plain]; exact h.kept, h.room⟩, fun h => ⟨h.opened, h.latest, h.num, h.uniq, h.snap, h.made, h.wr, h.inc, h.his, by have := h.kept; rw [kept_plain] at this; exact this, h.room⟩⟩
theorem Fit.keptN {i : Nat} {X : PEng} (h : Fit i X) : keptN X 60 ≤ 999 := by
  have h1 := h.kept
  have h2 := h.room
  omega
theorem Fit.len {i : Nat} {X : PEng} (h : Fit i X) {c : Nat} (hc : c < 60) : (X.hist c).length ≤ 999 := by
  have h1 := h.keptN
  have h2 := keptN_mono X (m := c + 1) (n := 60) (by omega)
  have h3 : Go.Proofs.Ythlhbjnkohinmaa.keptN X (c + 1) = Go.Proofs.Ythlhbjnkohinmaa.keptN X c + (X.hist c).length := rfl
  omega
theorem Fit.mores {i : Nat} {X : PEng} (h : Fit i X) (hi : i ≤ 100000000000000) {n : Int} {k : Nat} (hf : findP X n = some k) : (X.ses k).more := by
  have hk := (findP_spec hf).1
  have h1 := h.snap k hk
  have h2 := h.made k hk
  have h3 := h.latest
  unfold PSes.more
  omega
theorem histV_mem {h : Hist} {t v : Int} (e : (histV h t).2 = some v) : histV h t ∈ h := by
  unfold histV at e ⊢
  cases hf : h.reverse.find? (fun p => decide (p.1 ≤ t)) with
  | none => rw [hf] at e; cases e
  | some q => exact List.mem_reverse.mp (List.mem_of_find?_eq_some hf)
theorem Fit.seen {i : Nat} {X : PEng} (h : Fit i X) {k : Nat} (hk : k < 8) : Digs (seenP X k) := by
  intro c v _ hv
  unfold seenP at hv
  cases hw : (X.ses k).wr c with
  | none =>
    rw [hw] at hv
    simp only at hv
    rw [← histV_two] at hv
    exact (h.his c _ (histV_mem hv)).2 v hv
  | some u =>
    rw [hw] at hv
    simp only at hv
    exact h.wr k hk c v (by rw [hw, hv])

end Go.Proofs.Ythlhbjnkohinmaa
