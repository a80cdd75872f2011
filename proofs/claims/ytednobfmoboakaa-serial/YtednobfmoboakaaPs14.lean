/- The program's engine in memory: Commit. -/
import Derived.Test.YtednobfmoboakaaPs13
namespace Go.Proofs.Ytednobfmoboakaa
open Go.RowKit

theorem PNext.keep {x : Nat} {X X' : PEng} {kv : Nat → Value} {w w' : World} {f : List Nat} (h : PEngK kv x X w f) (hn : f.Nodup) (hh : X'.hist = X.hist) (hp : PNext x X' kv w w') : PEngK kv x X' w' f ∧ Fr f w w' := by
  obtain ⟨h1, f2, h2, rfl⟩ := h
  rw [List.nodup_cons] at hn
  refine ⟨⟨hp.1, f2, ?_, rfl⟩, hp.2.mono (fun k hk => .inl (by simp at hk; simp [hk]))⟩
  rw [hh]
  exact EachA.framed HistA.framed _ _ h2 hp.2 (fun k hk hs => by simp at hs; exact hn.1 (hs ▸ hk))
theorem info_wrs : (Try.prog.info? 79).map (·.size) = some 240 := by kernel_rfl

set_option maxRecDepth 20000 in
set_option maxHeartbeats 2000000 in
theorem pcommit_any (x : Nat) (X : PEng) (f : List Nat) (n : Int) (w : World) (h : PEngA x X w f) (hn : f.Nodup) (hlat : 0 ≤ X.latest ∧ X.latest < 9223372036854775807) (hl : ∀ c, c < 60 → ((X.hist c).length + 1) * 24 ≤ 140737488355328) :
    Calls Try.prog 36 #[.pointer (some ⟨x, 0, none⟩), .int .i64 n] w fun e w' => e = .returned (.tuple #[.int .i64 (pcommitF X n).1.1, .int .i64 (pcommitF X n).1.2]) ∧ ATo (PEngA x (pcommitF X n).2) f w w' := by
  have hwi := PEngA.within _ _ h
  have HPA := hid h
  obtain ⟨kv, hk0⟩ := h
  have HF := hid (findp_any x X n w hk0.1.ses)
  unfold pcommitF
  cases hf : findP X n with
  | none =>
    rw [hf] at HF
    clear hf hk0
    go_enter Try.func36, Try.ntmps36
    go_wp2_with fail
    go_at_call 31
    refine HF.out.mono ?_
    rintro e w' ⟨rfl, rfl⟩
    simp only [placeV]
    go_wp2
    go_ret2
    exact ⟨rfl, ATo.refl HPA.out hn (Fr.refl _ _)⟩
  | some k =>
    rw [hf] at HF
    have hk : k < 8 := by
      unfold findP at hf
      split at hf
      · cases hf
      · exact (numberedP_some hf).1
    simp only []
    have hP := hk0.1
    have hxl := hP.lt
    have hxz : x ≠ w.heap.size := by omega
    have hrg := (hP.ses k hk).range
    have hok := (hP.ses k hk).ok
    obtain ⟨S, hS⟩ : ∃ S, S = X.ses k := ⟨_, rfl⟩
    rw [← hS] at hrg hok ⊢
    have HOK := hid hok
    clear hok
    obtain ⟨RES, hRES⟩ : ∃ RES : (Int × Int) × PEng, RES = (if hasW S then (if clash X S then ((0, 10), X.setSes k .zero) else ((X.latest + 1, 0), (X.setSes k .zero).commit S)) else ((0, 0), X.setSes k .zero)) := ⟨_, rfl⟩
    rw [← hRES]
    have HRES := hid hRES
    clear hRES
    have hone := sesCells_one S
    have hlen := sesCells_len S
    -- the copy, and the place emptied
    have hw1s : Fr [] w (w.alloc (.cells (sesCells S).toArray 84)) := fr_alloc w _
    have hP1 : PAt (w.alloc (.cells (sesCells S).toArray 84)) x X kv := hP.fr hw1s (by simp)
    have hlay := hP1.lay hk .zero ok_zero
    have hst1 : (storeCells ⟨w.heap.size, 0, none⟩ (sesCells S) 0).run Try.prog (w.alloc (.cells Try.zeroCells84 84)) = .ok () (w.alloc (.cells (sesCells S).toArray 84)) := by
      have := run_storeCells_new (P := Try.prog) w 84 Try.zeroCells84 (sesCells S).toArray (info_ses.trans (by simp [hlen])) (by
        have e := congrArg List.length zero_ses
        rw [sesCells_len] at e
        simp only [Array.length_toList] at e
        rw [e]
        simp [hlen]) (all_oneCell_toArray hone)
      simpa using this
    have hst2 := run_storeCells_mid (P := Try.prog) (w.alloc (.cells (sesCells S).toArray 84)) x (3 + k * 244) Try.zeroCells84.toList (by rw [zero_ses, sesCells_len]; exact hP1.there hk) (by rw [zero_ses]; exact sesCells_one _)
    rw [← zero_ses] at hlay
    have hkeep := PNext.keep (X' := X.setSes k .zero) (PEngK.framed kv x X hk0 hw1s (by simp)) hn rfl hlay
    have HLAY : Hid (PEngK kv x (X.setSes k .zero) ((w.alloc (.cells (sesCells S).toArray 84)).setCells x (3 + k * 244) Try.zeroCells84.toList) f ∧ Fr f w ((w.alloc (.cells (sesCells S).toArray 84)).setCells x (3 + k * 244) Try.zeroCells84.toList)) := hid ⟨hkeep.1, (hw1s.mono (fun k hk => by cases hk)).trans hkeep.2⟩
    have hblkH : ((w.alloc (.cells (sesCells S).toArray 84)).setCells x (3 + k * 244) Try.zeroCells84.toList).heap[w.heap.size]? = some (.cells (sesCells S).toArray 84 (0, 0)) := (hlay.2.block w.heap.size (by simp) (by simp; omega)).trans (heap_alloc_new w _)
    have hH : w.heap.size ∉ f := fun e => by have := hwi _ e; omega
    have HHf := hid hH
    have HST1 := hid hst1
    have HST2 := hid hst2
    have HRG := hid hrg
    have HBH := hid hblkH
    have HLEN := hid hlen
    have HHL := hid hl
    have HLT := hid hlat
    clear hkeep hP1 hlay hblkH hw1s hS hk0 hP hH hl hlat hrg hst1 hst2 hone
    go_enter Try.func36, Try.ntmps36
    go_wp2_with fail
    go_at_call 31
    refine HF.out.mono ?_
    rintro e w' ⟨rfl, rfl⟩
    simp only [placeV]
    go_wp2_with (refine wpList_load_mid rfl 84 (.tmp 15) rfl x (3 + k * 244) rfl (sesCells S) _ HRG.out Try.underlying84 rfl (info_ses.trans (by rw [HLEN.out])) ?_)
    rw [HST1.out]
    have hst2 := HST2.out
    go_wp2_with fail
    generalize (w'.alloc (.cells (sesCells S).toArray 84)).setCells x (3 + k * 244) Try.zeroCells84.toList = w2 at HLAY HBH ⊢
    have hSes : SesAt w2 w'.heap.size 0 S := .of (fun j v hv => by
      rw [cell_of_row _ _ _ _ _ _ HBH.out]
      simpa using hv) HOK.out
    have HSES := hid hSes
    have HHW := hid (hasw_any w'.heap.size 0 S w2 hSes)
    clear hSes hst2 HST1 HST2 HRG
    go_at_call 49
    refine HHW.out.mono ?_
    rintro e w3 ⟨rfl, rfl⟩
    have HCONF : Hid (∀ W, Fr [] w3 W → ATo (PEngA x (X.setSes k .zero)) f w' W) := hid (fun W hW => ⟨f, PEngA.framed _ _ ⟨kv, HLAY.out.1⟩ hW (by simp), hn, fun _ hy => .inl hy, HLAY.out.2.trans (hW.mono (fun k hk => by cases hk))⟩)
    cases hhw : hasW S with
    | false =>
      have HRE : Hid (RES = ((0, 0), X.setSes k .zero)) := hid (by rw [HRES.out, hhw]; rfl)
      clear hhw
      go_wp2_with fail
      go_ret2
      rw [HRE.out]
      exact ⟨rfl, HCONF.out _ (Fr.refl _ _)⟩
    | true =>
      have hrw : w3.rangeAt w'.heap.size 3 (wrsCells S.wr S.tm) := by simpa using HSES.out.writes
      have hsn : w3.cell? ⟨w'.heap.size, 1, none⟩ = some (.int .i64 S.snap) := by simpa using HSES.out.snap
      have HCON : Hid (∀ W, Fr [] w3 W → Calls Try.prog 50 #[.pointer (some ⟨x, 1955, none⟩), .agg (wrsCells S.wr S.tm).toArray, .int .i64 S.snap] W fun e w'' => e = .returned (.bool (clash X S)) ∧ W.grownBy w'' none) := hid (fun W hW => conflicts_any x 1955 (X.setSes k .zero) kv S W (HLAY.out.1.1.fr hW (by simp)).store)
      have HCOM : Hid (∀ W, Fr [] w3 W → Calls Try.prog 51 #[.pointer (some ⟨x, 1955, none⟩), .agg (wrsCells S.wr S.tm).toArray] W fun e w'' => e = .returned (.int .i64 (X.latest + 1)) ∧ ATo (PEngA x ((X.setSes k .zero).commit S)) f W w'') := hid (fun W hW => scommit_any x (X.setSes k .zero) S f W (PEngA.framed _ _ ⟨kv, HLAY.out.1⟩ hW (by simp)) hn HLT.out HHL.out)
      have hu := Try.underlying79
      have hlen2 := wrsCells_len S.wr S.tm
      have hinf : (Try.prog.info? 79).map (·.size) = some (wrsCells S.wr S.tm).length := info_wrs.trans (by rw [hlen2])
      have hR2 : RES = if clash X S then ((0, 10), X.setSes k .zero) else ((X.latest + 1, 0), (X.setSes k .zero).commit S) := by rw [HRES.out, hhw]; rfl
      have HR2 := hid hR2
      obtain ⟨sn, hsn'⟩ : ∃ sn, sn = S.snap := ⟨_, rfl⟩
      rw [← hsn'] at hsn HCON
      obtain ⟨wl, hwl⟩ : ∃ wl, wl = wrsCells S.wr S.tm := ⟨_, rfl⟩
      rw [← hwl] at hrw HCON HCOM hinf hlen2
      obtain ⟨lt1, hlt1⟩ : ∃ lt1, lt1 = X.latest + 1 := ⟨_, rfl⟩
      rw [← hlt1] at HCOM HR2
      obtain ⟨cl, hcl⟩ : ∃ cl, cl = clash X S := ⟨_, rfl⟩
      rw [← hcl] at HCON HR2
      have HFIN : Hid (∀ W W', Fr [] w3 W → ATo (PEngA x ((X.setSes k .zero).commit S)) f W W' → ATo (PEngA x ((X.setSes k .zero).commit S)) f w' W') := hid (fun W W' hW hT => by
        obtain ⟨f3, a3, n3, s3, r3⟩ := hT.before hW
        refine ⟨f3, a3, n3, fun y hy => ?_, HLAY.out.2.trans r3⟩
        rcases s3 y hy with h | h
        · exact .inl h
        · exact .inr (Nat.le_trans HLAY.out.2.size h))
      clear hhw hsn' hwl hlt1 hR2 hcl
      go_wp2_with fail
      go_region_held3 (fun W => W.rangeAt w'.heap.size 3 wl ∧ W.cell? ⟨w'.heap.size, 1, none⟩ = some (.int .i64 sn)) (first | (exact ⟨t1, t2⟩) | (simp only [World.rangeAt_drew, World.cell?_drew]; exact ⟨hrw, hsn⟩) | go_keep) (first
        | (go_at_call 50
           refine (HCON.out _ (fr_drew (Fr.refl _ _))).mono ?_
           rintro e w4 ⟨rfl, hg4⟩
           have HG4 := hid (fr_none hg4)
           have t1 : w4.rangeAt w'.heap.size 3 wl := fun j v hv => grown_cell hg4 (hrw j v hv)
           have t2 := grown_cell hg4 hsn
           clear hg4))
      cases cl with
      | true =>
        go_wp2_with fail
        go_ret2
        rw [show RES = ((0, 10), X.setSes k .zero) from HR2.out]
        exact ⟨rfl, HCONF.out _ ((fr_drew (Fr.refl _ _)).trans HG4.out)⟩
      | false =>
        have HW4 := hid ((fr_drew (Fr.refl [] w3)).trans HG4.out)
        go_wp2_with fail
        go_region_held3 (fun W => W.rangeAt w'.heap.size 3 wl) (first | (exact t3) | (simp only [World.rangeAt_drew]; exact t1) | go_keep) (first
          | (go_at_call 51
             refine (HCOM.out _ (fr_drew HW4.out)).mono ?_
             rintro e w5 ⟨rfl, ht5⟩
             have HT5 := hid ht5
             obtain ⟨_, _, _, _, r5⟩ := ht5
             have t3 : w5.rangeAt w'.heap.size 3 wl := fun j v hv => keepc r5 (keep0 (fr_drew (Fr.refl _ _)) (t1 j v hv)) HHf.out
             clear r5))
        go_wp2_with fail
        go_ret2
        rw [show RES = ((lt1, 0), (X.setSes k .zero).commit S) from HR2.out]
        exact ⟨rfl, HFIN.out _ _ (fr_drew HW4.out) HT5.out⟩

end Go.Proofs.Ytednobfmoboakaa
