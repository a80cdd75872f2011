/- The program's engine in memory: Commit. -/
import Derived.Test.YthlhbjnkohinmaaPsK
namespace Go.Proofs.Ythlhbjnkohinmaa
open Go.RowKit

theorem PNext.keep {x : Nat} {X X' : PEng} {kv : Nat → Value} {w w' : World} {f : List Nat} (h : PEngK kv x X w f) (hn : f.Nodup) (hh : X'.hist = X.hist) (hp : PNext x X' kv w w') : PEngK kv x X' w' f ∧ Fr f w w' := by
  obtain ⟨h1, f2, h2, rfl⟩ := h
  rw [List.nodup_cons] at hn
  refine ⟨⟨hp.1, f2, ?_, rfl⟩, hp.2.mono (fun k hk => .inl (by simp at hk; simp [hk]))⟩
  rw [hh]
  exact EachA.framed HistA.framed _ _ h2 hp.2 (fun k hk hs => by simp at hs; exact hn.1 (hs ▸ hk))
theorem info_wrs : (Try.prog.info? 79).map (·.size) = some 240 := by kernel_rfl

/-- A place is emptied. -/
theorem pzero {x k : Nat} (hk : k < 8) {X : PEng} {w : World} {f : List Nat} (h : PEngA x X w f) (hn : f.Nodup) :
    (storeCells ⟨x, 3 + k * 244, none⟩ Try.zeroCells84.toList 0).run Try.prog w = .ok () (w.setCells x (3 + k * 244) Try.zeroCells84.toList) ∧ ATo (PEngA x (X.setSes k .zero)) f w (w.setCells x (3 + k * 244) Try.zeroCells84.toList) := by
  obtain ⟨kv, hk0⟩ := h
  have hP := hk0.1
  have hlay := hP.lay hk .zero ok_zero
  rw [← zero_ses] at hlay
  exact ⟨run_storeCells_mid (P := Try.prog) w x (3 + k * 244) Try.zeroCells84.toList (by rw [zero_ses, sesCells_len]; exact hP.there hk) (by rw [zero_ses]; exact sesCells_one _), PNext.to (X' := X.setSes k .zero) hk0 hn rfl hlay⟩

set_option maxRecDepth 20000 in
set_option maxHeartbeats 2000000 in
theorem pcommit_any (x : Nat) (X : PEng) (f : List Nat) (n : Int) (w : World) (h : PEngA x X w f) (hn : f.Nodup) (hlat : 0 ≤ X.latest ∧ X.latest < 9223372036854775807) (hl : ∀ c, c < 60 → ((X.hist c).length + 1) * 24 ≤ 140737488355328) (hr : ∀ k, findP X n = some k → ((keptN X 60 + writN (X.ses k) 60 : Nat) : Int) ≤ X.room) (hm : X.room ≤ 999) :
    Calls Try.prog 36 #[.pointer (some ⟨x, 0, none⟩), .int .i64 n] w fun e w' => e = .returned (.tuple #[.int .i64 (pcommitF X n).1.1, .int .i64 (pcommitF X n).1.2]) ∧ ATo (PEngA x (pcommitF X n).2) f w w' := by
  have HPA := hid h
  obtain ⟨kv, hk0⟩ := h
  have HF := hid (findp_any x X n w hk0.1.ses)
  unfold pcommitF
  cases hf : findP X n with
  | none =>
    rw [hf] at HF
    clear hf hk0 hr
    go_enter Try.func36, Try.ntmps36
    go_wp2_with fail
    go_at_call 31
    refine HF.out.mono ?_
    rintro e w' ⟨rfl, rfl⟩
    simp only [placeV]
    go_wp2
    go_ret2
    exact ⟨rfl, ATo.refl HPA.out hn (Fr.refl _ _)⟩
  | some k =>
    rw [hf] at HF
    have hk : k < 8 := by
      unfold findP at hf
      split at hf
      · cases hf
      · exact (numberedP_some hf).1
    have hrk := hr k hf
    clear hr hf
    simp only []
    have hP := hk0.1
    have hS0 := hP.ses k hk
    obtain ⟨S, hS⟩ : ∃ S, S = X.ses k := ⟨_, rfl⟩
    rw [← hS] at hrk hS0 ⊢
    obtain ⟨RES, hRES⟩ : ∃ RES : (Int × Int) × PEng, RES = (if hasW S then (if clash X S then ((0, 10), X.setSes k .zero) else ((X.latest + 1, 0), (X.setSes k .zero).commit S)) else ((0, 0), X.setSes k .zero)) := ⟨_, rfl⟩
    rw [← hRES]
    have HRES := hid hRES
    have HHW := hid (hasw_any x (3 + k * 244) S w hS0)
    have HWN := hid (fun W (hW : Fr [] w W) => swritten_any x (3 + k * 244) S W ((hP.fr hW (by simp)).ses k hk |> fun h => by rw [← hS] at h; exact h))
    have HHR := hid (fun W (hW : Fr [] w W) => hasroom_yes x X kv (writN S 60) W (hP.fr hW (by simp)) (PEngK.framed kv x X hk0 hW (by simp)).rows hrk hm)
    have HCON : Hid (∀ W, Fr [] w W → Calls Try.prog 53 #[.pointer (some ⟨x, 1955, none⟩), .agg (wrsCells S.wr S.tm).toArray, .int .i64 S.snap] W fun e w'' => e = .returned (.bool (clash X S)) ∧ W.grownBy w'' none) := hid (fun W hW => conflicts_any x 1955 X kv S W (hP.fr hW (by simp)).store)
    have HCOM : Hid (∀ W, Fr [] w W → Calls Try.prog 56 #[.pointer (some ⟨x, 1955, none⟩), .agg (wrsCells S.wr S.tm).toArray] W fun e w'' => e = .returned (.int .i64 (X.latest + 1)) ∧ ATo (PEngA x (X.commit S)) f W w'') := hid (fun W hW => scommit_any x X S f W (PEngA.framed _ _ HPA.out hW (by simp)) hn hlat hl)
    have HZ : Hid (∀ W, Fr [] w W → (storeCells ⟨x, 3 + k * 244, none⟩ Try.zeroCells84.toList 0).run Try.prog W = .ok () (W.setCells x (3 + k * 244) Try.zeroCells84.toList) ∧ ATo (PEngA x (X.setSes k .zero)) f w (W.setCells x (3 + k * 244) Try.zeroCells84.toList)) := hid (fun W hW => by
      obtain ⟨a, b⟩ := pzero hk (PEngA.framed _ _ HPA.out hW (by simp)) hn
      exact ⟨a, b.before hW⟩)
    have HZ2 : Hid (∀ W W2, Fr [] w W → ATo (PEngA x (X.commit S)) f W W2 → (storeCells ⟨x, 3 + k * 244, none⟩ Try.zeroCells84.toList 0).run Try.prog W2 = .ok () (W2.setCells x (3 + k * 244) Try.zeroCells84.toList) ∧ ATo (PEngA x ((X.setSes k .zero).commit S)) f w (W2.setCells x (3 + k * 244) Try.zeroCells84.toList)) := hid (fun W W2 hW hT => by
      refine ⟨?_, (hT.then (fun f' a n => (pzero hk a n).2)).before hW⟩
      obtain ⟨f', a, n', _, _⟩ := hT
      exact (pzero hk a n').1)
    have HSE : Hid (∀ W W2, ATo (PEngA x (X.commit S)) f W W2 → W2.rangeAt x (3 + k * 244 + 3) (wrsCells S.wr S.tm)) := hid (fun W W2 hT => by
      obtain ⟨f', ⟨kv', a⟩, _⟩ := hT
      have h1 := (a.1.ses k hk).writes
      have h2 : (X.commit S).ses k = S := hS.symm
      rw [h2] at h1
      exact h1)
    have hsn0 := hS0.snap
    have hrw0 := hS0.writes
    have hxl := hP.lt
    clear hRES hk0 hP hS hS0 hrk hlat hl hm
    go_enter Try.func36, Try.ntmps36
    go_wp2_with fail
    go_at_call 31
    refine HF.out.mono ?_
    rintro e w' ⟨rfl, rfl⟩
    simp only [placeV]
    go_wp2_with fail
    go_at_call 52
    refine HHW.out.mono ?_
    rintro e w3 ⟨rfl, rfl⟩
    cases hhw : hasW S with
    | false =>
      have HRE : Hid (RES = ((0, 0), X.setSes k .zero)) := hid (by rw [HRES.out, hhw]; rfl)
      have hst := (HZ.out _ (Fr.refl _ _)).1
      clear hhw
      go_wp2_with fail
      go_ret2
      rw [HRE.out]
      exact ⟨rfl, (HZ.out _ (Fr.refl _ _)).2⟩
    | true =>
      have hu := Try.underlying79
      have hlen2 := wrsCells_len S.wr S.tm
      have hinf : (Try.prog.info? 79).map (·.size) = some (wrsCells S.wr S.tm).length := info_wrs.trans (by rw [hlen2])
      have hR2 : RES = if clash X S then ((0, 10), X.setSes k .zero) else ((X.latest + 1, 0), (X.setSes k .zero).commit S) := by rw [HRES.out, hhw]; rfl
      have HR2 := hid hR2
      obtain ⟨sn, hsn'⟩ : ∃ sn, sn = S.snap := ⟨_, rfl⟩
      rw [← hsn'] at hsn0 HCON
      obtain ⟨wl, hwl⟩ : ∃ wl, wl = wrsCells S.wr S.tm := ⟨_, rfl⟩
      rw [← hwl] at hrw0 HCON HCOM HSE hinf hlen2
      obtain ⟨lt1, hlt1⟩ : ∃ lt1, lt1 = X.latest + 1 := ⟨_, rfl⟩
      rw [← hlt1] at HCOM HR2
      obtain ⟨cl, hcl⟩ : ∃ cl, cl = clash X S := ⟨_, rfl⟩
      rw [← hcl] at HCON HR2
      obtain ⟨wn, hwn⟩ : ∃ wn, wn = writN S 60 := ⟨_, rfl⟩
      rw [← hwn] at HWN HHR
      clear hhw hsn' hwl hlt1 hR2 hcl hwn
      go_wp2_with fail
      go_region_held3 (fun W => W.rangeAt x (3 + k * 244 + 3) wl ∧ W.cell? ⟨x, 3 + k * 244 + 1, none⟩ = some (.int .i64 sn)) (first | (exact ⟨t1, t2⟩) | (simp only [World.rangeAt_drew, World.cell?_drew]; exact ⟨hrw0, hsn0⟩) | go_keep) (first
        | (go_at_call 53
           refine (HCON.out _ (fr_drew (Fr.refl _ _))).mono ?_
           rintro e w4 ⟨rfl, hg4⟩
           have HG4 := hid (fr_none hg4)
           have t1 : w4.rangeAt x (3 + k * 244 + 3) wl := fun j v hv => grown_cell hg4 (hrw0 j v hv)
           have t2 := grown_cell hg4 hsn0
           clear hg4))
      cases cl with
      | true =>
        have hst := (HZ.out _ ((fr_drew (Fr.refl _ _)).trans HG4.out)).1
        go_wp2_with fail
        go_ret2
        rw [show RES = ((0, 10), X.setSes k .zero) from HR2.out]
        exact ⟨rfl, (HZ.out _ ((fr_drew (Fr.refl _ _)).trans HG4.out)).2⟩
      | false =>
        have HW4 := hid ((fr_drew (Fr.refl [] w3)).trans HG4.out)
        go_wp2_with fail
        go_at_call 54
        refine (HWN.out _ HW4.out).mono ?_
        rintro e w4' ⟨rfl, rfl⟩
        go_wp2_with fail
        go_at_call 55
        refine (HHR.out _ HW4.out).mono ?_
        rintro e w4'' ⟨rfl, rfl⟩
        go_wp2_with fail
        go_region_held3 (fun W => W.rangeAt x (3 + k * 244 + 3) wl) (first | (exact t3) | (simp only [World.rangeAt_drew]; exact t1) | go_keep) (first
          | (go_at_call 56
             refine (HCOM.out _ (fr_drew HW4.out)).mono ?_
             rintro e w5 ⟨rfl, ht5⟩
             have HT5 := hid ht5
             have t3 := HSE.out _ _ ht5
             clear ht5))
        have hst := (HZ2.out _ _ (fr_drew HW4.out) HT5.out).1
        go_wp2_with fail
        go_ret2
        rw [show RES = ((lt1, 0), (X.setSes k .zero).commit S) from HR2.out]
        exact ⟨rfl, (HZ2.out _ _ (fr_drew HW4.out) HT5.out).2⟩

end Go.Proofs.Ythlhbjnkohinmaa
