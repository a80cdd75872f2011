import Derived.Test.YthlhbjnkohinmaaPart00
import Derived.Test.YthlhbjnkohinmaaPeng
import Derived.Test.YthlhbjnkohinmaaPs8
import Derived.Test.YthlhbjnkohinmaaUb2
/- The program's versions in memory: how many are kept, how many cells a session wrote, whether there is room. -/
namespace Go.Proofs.Ythlhbjnkohinmaa
open Go.RowKit

theorem kept_cell {w : World} {b o : Nat} {X : PEng} {kv : Nat → Value} (h : StoreAt w b o X kv) (hR : HRows w X kv) {c : Nat} (hc : c < 60) : ∃ a cp, w.cell? ⟨b, o + 1 + c * 2 + 1, none⟩ = some (.slice a (X.hist c).length cp) := by
  have h1 := hR c hc
  obtain ⟨a, m, cp, e⟩ := own_slice h1
  rw [e] at h1
  have em := own_len h1
  subst em
  exact ⟨a, cp, by rw [← e]; exact h.kept c hc⟩

set_option maxRecDepth 20000 in
set_option maxHeartbeats 1000000 in
theorem kept_any (b o : Nat) (X : PEng) (kv : Nat → Value) (w : World) (h : StoreAt w b o X kv) (hR : HRows w X kv) (hm : keptN X 60 ≤ 9223372036854775807) :
    Calls Try.prog 45 #[.pointer (some ⟨b, o, none⟩)] w fun e w' => e = .returned (.int .i64 (keptN X 60 : Nat)) ∧ w' = w := by
  have HK : Hid (∀ c, c < 60 → ∃ a cp, w.cell? ⟨b, o + 1 + c * 2 + 1, none⟩ = some (.slice a (X.hist c).length cp)) := hid (fun c hc => kept_cell h hR hc)
  have HM : Hid (∀ k, k ≤ 60 → keptN X k ≤ 9223372036854775807) := hid (fun k hk => Nat.le_trans (keptN_mono X hk) hm)
  clear h hR hm
  go_enter Try.func45, Try.ntmps45
  go_wp2_with fail
  go_loop [3, 4] (fun t i => ∃ k : Nat, k ≤ 60 ∧ i = .int .i64 k ∧ t = .int .i64 (keptN X k : Nat)) (fun _ i => 60 - (intOf i).toNat)
  case atStart => exact ⟨0, by omega, rfl, rfl⟩
  case round =>
    obtain ⟨k, hk, rfl, rfl⟩ := hrel
    by_cases hlt : k < 60
    · obtain ⟨a, cp, d0⟩ := HK.out k hlt
      have hle := HM.out (k + 1) (by omega)
      have HSU : Hid (keptN X (k + 1) = keptN X k + (X.hist k).length) := hid rfl
      rw [HSU.out] at hle
      obtain ⟨m, hm⟩ : ∃ m, m = keptN X k := ⟨_, rfl⟩
      obtain ⟨l, hl⟩ : ∃ l, l = (X.hist k).length := ⟨_, rfl⟩
      rw [← hm, ← hl] at hle HSU
      rw [← hl] at d0
      rw [← hm]
      clear hm hl
      go_wp2
      go_round
      case rel => exact ⟨k + 1, by omega, by go_num, by rw [HSU.out]; go_num⟩
      case measure => simp [intOf]; omega
    · have e : k = 60 := by omega
      subst e
      go_wp2
      go_ret
      exact ⟨rfl, rfl⟩

set_option maxRecDepth 20000 in
set_option maxHeartbeats 1000000 in
theorem swritten_any (b o : Nat) (S : PSes) (w : World) (h : SesAt w b o S) :
    Calls Try.prog 54 #[.pointer (some ⟨b, o, none⟩)] w fun e w' => e = .returned (.int .i64 (writN S 60 : Nat)) ∧ w' = w := by
  have HM := hid h.made
  clear h
  go_enter Try.func54, Try.ntmps54
  go_wp2_with fail
  go_loop [3, 4] (fun t i => ∃ k : Nat, k ≤ 60 ∧ i = .int .i64 k ∧ t = .int .i64 (writN S k : Nat)) (fun _ i => 60 - (intOf i).toNat)
  case atStart => exact ⟨0, by omega, rfl, rfl⟩
  case round =>
    obtain ⟨k, hk, rfl, rfl⟩ := hrel
    have hle := writN_le S k
    by_cases hlt : k < 60
    · have d0 := HM.out k hlt
      have HSU : Hid (writN S (k + 1) = writN S k + (if wMade (S.wr k) then 1 else 0)) := hid rfl
      obtain ⟨m, hm⟩ : ∃ m, m = writN S k := ⟨_, rfl⟩
      rw [← hm] at hle HSU
      rw [← hm]
      clear hm
      cases hw : wMade (S.wr k) with
      | true =>
        rw [hw] at d0 HSU
        clear hw
        go_wp2
        go_round
        case rel => exact ⟨k + 1, by omega, by go_num, by rw [HSU.out]; go_num⟩
        case measure => simp [intOf]; omega
      | false =>
        rw [hw] at d0 HSU
        clear hw
        go_wp2
        go_round
        case rel => exact ⟨k + 1, by omega, by go_num, by rw [HSU.out]; rfl⟩
        case measure => simp [intOf]; omega
    · have e : k = 60 := by omega
      subst e
      go_wp2
      go_ret
      exact ⟨rfl, rfl⟩

set_option maxRecDepth 20000 in
set_option maxHeartbeats 1000000 in
/-- There is room without a sweep. -/
theorem hasroom_yes (x : Nat) (X : PEng) (kv : Nat → Value) (m : Nat) (w : World) (h : PAt w x X kv) (hR : HRows w X kv) (hr : ((keptN X 60 + m : Nat) : Int) ≤ X.room) (h9 : X.room ≤ 999) :
    Calls Try.prog 55 #[.pointer (some ⟨x, 0, none⟩), .int .i64 m] w fun e w' => e = .returned (.bool true) ∧ w' = w := by
  have HK := hid (kept_any x 1955 X kv w h.store hR (by omega))
  have c1 := h.room
  obtain ⟨rm, hrm⟩ : ∃ rm, rm = X.room := ⟨_, rfl⟩
  obtain ⟨kn, hkn⟩ : ∃ kn, kn = keptN X 60 := ⟨_, rfl⟩
  rw [← hrm] at c1 hr h9
  rw [← hkn] at HK hr
  clear hrm hkn h hR
  go_enter Try.func55, Try.ntmps55
  go_wp2_with fail
  go_at_call 45
  refine HK.out.mono ?_
  rintro e w' ⟨rfl, rfl⟩
  go_wp2
  go_ret
  exact ⟨rfl, rfl⟩

end Go.Proofs.Ythlhbjnkohinmaa

/- The program's engine in memory: Commit. -/
namespace Go.Proofs.Ythlhbjnkohinmaa
open Go.RowKit

theorem PNext.keep {x : Nat} {X X' : PEng} {kv : Nat → Value} {w w' : World} {f : List Nat} (h : PEngK kv x X w f) (hn : f.Nodup) (hh : X'.hist = X.hist) (hp : PNext x X' kv w w') : PEngK kv x X' w' f ∧ Fr f w w' := by
  obtain ⟨h1, f2, h2, rfl⟩ := h
  rw [List.nodup_cons] at hn
  refine ⟨⟨hp.1, f2, ?_, rfl⟩, hp.2.mono (fun k hk => .inl (by simp at hk; simp [hk]))⟩
  rw [hh]
  exact EachA.framed HistA.framed _ _ h2 hp.2 (fun k hk hs => by simp at hs; exact hn.1 (hs ▸ hk))
theorem info_wrs : (Try.prog.info? 79).map (·.size) = some 240 := by kernel_rfl

/-- A place is emptied. -/
theorem pzero {x k : Nat} (hk : k < 8) {X : PEng} {w : World} {f : List Nat} (h : PEngA x X w f) (hn : f.Nodup) :
    (storeCells ⟨x, 3 + k * 244, none⟩ Try.zeroCells84.toList 0).run Try.prog w = .ok () (w.setCells x (3 + k * 244) Try.zeroCells84.toList) ∧ ATo (PEngA x (X.setSes k .zero)) f w (w.setCells x (3 + k * 244) Try.zeroCells84.toList) := by
  obtain ⟨kv, hk0⟩ := h
  have hP := hk0.1
  have hlay := hP.lay hk .zero ok_zero
  rw [← zero_ses] at hlay
  exact ⟨run_storeCells_mid (P := Try.prog) w x (3 + k * 244) Try.zeroCells84.toList (by rw [zero_ses, sesCells_len]; exact hP.there hk) (by rw [zero_ses]; exact sesCells_one _), PNext.to (X' := X.setSes k .zero) hk0 hn rfl hlay⟩

set_option maxRecDepth 20000 in
set_option maxHeartbeats 2000000 in
theorem pcommit_any (x : Nat) (X : PEng) (f : List Nat) (n : Int) (w : World) (h : PEngA x X w f) (hn : f.Nodup) (hlat : 0 ≤ X.latest ∧ X.latest < 9223372036854775807) (hl : ∀ c, c < 60 → ((X.hist c).length + 1) * 24 ≤ 140737488355328) (hr : ∀ k, findP X n = some k → ((keptN X 60 + writN (X.ses k) 60 : Nat) : Int) ≤ X.room) (hm : X.room ≤ 999) :
    Calls Try.prog 36 #[.pointer (some ⟨x, 0, none⟩), .int .i64 n] w fun e w' => e = .returned (.tuple #[.int .i64 (pcommitF X n).1.1, .int .i64 (pcommitF X n).1.2]) ∧ ATo (PEngA x (pcommitF X n).2) f w w' := by
  have HPA := hid h
  obtain ⟨kv, hk0⟩ := h
  have HF := hid (findp_any x X n w hk0.1.ses)
  unfold pcommitF
  cases hf : findP X n with
  | none =>
    rw [hf] at HF
    clear hf hk0 hr
    go_enter Try.func36, Try.ntmps36
    go_wp2_with fail
    go_at_call 31
    refine HF.out.mono ?_
    rintro e w' ⟨rfl, rfl⟩
    simp only [placeV]
    go_wp2
    go_ret2
    exact ⟨rfl, ATo.refl HPA.out hn (Fr.refl _ _)⟩
  | some k =>
    rw [hf] at HF
    have hk : k < 8 := by
      unfold findP at hf
      split at hf
      · cases hf
      · exact (numberedP_some hf).1
    have hrk := hr k hf
    clear hr hf
    simp only []
    have hP := hk0.1
    have hS0 := hP.ses k hk
    obtain ⟨S, hS⟩ : ∃ S, S = X.ses k := ⟨_, rfl⟩
    rw [← hS] at hrk hS0 ⊢
    obtain ⟨RES, hRES⟩ : ∃ RES : (Int × Int) × PEng, RES = (if hasW S then (if clash X S then ((0, 10), X.setSes k .zero) else ((X.latest + 1, 0), (X.setSes k .zero).commit S)) else ((0, 0), X.setSes k .zero)) := ⟨_, rfl⟩
    rw [← hRES]
    have HRES := hid hRES
    have HHW := hid (hasw_any x (3 + k * 244) S w hS0)
    have HWN := hid (fun W (hW : Fr [] w W) => swritten_any x (3 + k * 244) S W ((hP.fr hW (by simp)).ses k hk |> fun h => by rw [← hS] at h; exact h))
    have HHR := hid (fun W (hW : Fr [] w W) => hasroom_yes x X kv (writN S 60) W (hP.fr hW (by simp)) (PEngK.framed kv x X hk0 hW (by simp)).rows hrk hm)
    have HCON : Hid (∀ W, Fr [] w W → Calls Try.prog 53 #[.pointer (some ⟨x, 1955, none⟩), .agg (wrsCells S.wr S.tm).toArray, .int .i64 S.snap] W fun e w'' => e = .returned (.bool (clash X S)) ∧ W.grownBy w'' none) := hid (fun W hW => conflicts_any x 1955 X kv S W (hP.fr hW (by simp)).store)
    have HCOM : Hid (∀ W, Fr [] w W → Calls Try.prog 56 #[.pointer (some ⟨x, 1955, none⟩), .agg (wrsCells S.wr S.tm).toArray] W fun e w'' => e = .returned (.int .i64 (X.latest + 1)) ∧ ATo (PEngA x (X.commit S)) f W w'') := hid (fun W hW => scommit_any x X S f W (PEngA.framed _ _ HPA.out hW (by simp)) hn hlat hl)
    have HZ : Hid (∀ W, Fr [] w W → (storeCells ⟨x, 3 + k * 244, none⟩ Try.zeroCells84.toList 0).run Try.prog W = .ok () (W.setCells x (3 + k * 244) Try.zeroCells84.toList) ∧ ATo (PEngA x (X.setSes k .zero)) f w (W.setCells x (3 + k * 244) Try.zeroCells84.toList)) := hid (fun W hW => by
      obtain ⟨a, b⟩ := pzero hk (PEngA.framed _ _ HPA.out hW (by simp)) hn
      exact ⟨a, b.before hW⟩)
    have HZ2 : Hid (∀ W W2, Fr [] w W → ATo (PEngA x (X.commit S)) f W W2 → (storeCells ⟨x, 3 + k * 244, none⟩ Try.zeroCells84.toList 0).run Try.prog W2 = .ok () (W2.setCells x (3 + k * 244) Try.zeroCells84.toList) ∧ ATo (PEngA x ((X.setSes k .zero).commit S)) f w (W2.setCells x (3 + k * 244) Try.zeroCells84.toList)) := hid (fun W W2 hW hT => by
      refine ⟨?_, (hT.then (fun f' a n => (pzero hk a n).2)).before hW⟩
      obtain ⟨f', a, n', _, _⟩ := hT
      exact (pzero hk a n').1)
    have HSE : Hid (∀ W W2, ATo (PEngA x (X.commit S)) f W W2 → W2.rangeAt x (3 + k * 244 + 3) (wrsCells S.wr S.tm)) := hid (fun W W2 hT => by
      obtain ⟨f', ⟨kv', a⟩, _⟩ := hT
      have h1 := (a.1.ses k hk).writes
      have h2 : (X.commit S).ses k = S := hS.symm
      rw [h2] at h1
      exact h1)
    have hsn0 := hS0.snap
    have hrw0 := hS0.writes
    have hxl := hP.lt
    clear hRES hk0 hP hS hS0 hrk hlat hl hm
    go_enter Try.func36, Try.ntmps36
    go_wp2_with fail
    go_at_call 31
    refine HF.out.mono ?_
    rintro e w' ⟨rfl, rfl⟩
    simp only [placeV]
    go_wp2_with fail
    go_at_call 52
    refine HHW.out.mono ?_
    rintro e w3 ⟨rfl, rfl⟩
    cases hhw : hasW S with
    | false =>
      have HRE : Hid (RES = ((0, 0), X.setSes k .zero)) := hid (by rw [HRES.out, hhw]; rfl)
      have hst := (HZ.out _ (Fr.refl _ _)).1
      clear hhw
      go_wp2_with fail
      go_ret2
      rw [HRE.out]
      exact ⟨rfl, (HZ.out _ (Fr.refl _ _)).2⟩
    | true =>
      have hu := Try.underlying79
      have hlen2 := wrsCells_len S.wr S.tm
      have hinf : (Try.prog.info? 79).map (·.size) = some (wrsCells S.wr S.tm).length := info_wrs.trans (by rw [hlen2])
      have hR2 : RES = if clash X S then ((0, 10), X.setSes k .zero) else ((X.latest + 1, 0), (X.setSes k .zero).commit S) := by rw [HRES.out, hhw]; rfl
      have HR2 := hid hR2
      obtain ⟨sn, hsn'⟩ : ∃ sn, sn = S.snap := ⟨_, rfl⟩
      rw [← hsn'] at hsn0 HCON
      obtain ⟨wl, hwl⟩ : ∃ wl, wl = wrsCells S.wr S.tm := ⟨_, rfl⟩
      rw [← hwl] at hrw0 HCON HCOM HSE hinf hlen2
      obtain ⟨lt1, hlt1⟩ : ∃ lt1, lt1 = X.latest + 1 := ⟨_, rfl⟩
      rw [← hlt1] at HCOM HR2
      obtain ⟨cl, hcl⟩ : ∃ cl, cl = clash X S := ⟨_, rfl⟩
      rw [← hcl] at HCON HR2
      obtain ⟨wn, hwn⟩ : ∃ wn, wn = writN S 60 := ⟨_, rfl⟩
      rw [← hwn] at HWN HHR
      clear hhw hsn' hwl hlt1 hR2 hcl hwn
      go_wp2_with fail
      go_region_held3 (fun W => W.rangeAt x (3 + k * 244 + 3) wl ∧ W.cell? ⟨x, 3 + k * 244 + 1, none⟩ = some (.int .i64 sn)) (first | (exact ⟨t1, t2⟩) | (simp only [World.rangeAt_drew, World.cell?_drew]; exact ⟨hrw0, hsn0⟩) | go_keep) (first
        | (go_at_call 53
           refine (HCON.out _ (fr_drew (Fr.refl _ _))).mono ?_
           rintro e w4 ⟨rfl, hg4⟩
           have HG4 := hid (fr_none hg4)
           have t1 : w4.rangeAt x (3 + k * 244 + 3) wl := fun j v hv => grown_cell hg4 (hrw0 j v hv)
           have t2 := grown_cell hg4 hsn0
           clear hg4))
      cases cl with
      | true =>
        have hst := (HZ.out _ ((fr_drew (Fr.refl _ _)).trans HG4.out)).1
        go_wp2_with fail
        go_ret2
        rw [show RES = ((0, 10), X.setSes k .zero) from HR2.out]
        exact ⟨rfl, (HZ.out _ ((fr_drew (Fr.refl _ _)).trans HG4.out)).2⟩
      | false =>
        have HW4 := hid ((fr_drew (Fr.refl [] w3)).trans HG4.out)
        go_wp2_with fail
        go_at_call 54
        refine (HWN.out _ HW4.out).mono ?_
        rintro e w4' ⟨rfl, rfl⟩
        go_wp2_with fail
        go_at_call 55
        refine (HHR.out _ HW4.out).mono ?_
        rintro e w4'' ⟨rfl, rfl⟩
        go_wp2_with fail
        go_region_held3 (fun W => W.rangeAt x (3 + k * 244 + 3) wl) (first | (exact t3) | (simp only [World.rangeAt_drew]; exact t1) | go_keep) (first
          | (go_at_call 56
             refine (HCOM.out _ (fr_drew HW4.out)).mono ?_
             rintro e w5 ⟨rfl, ht5⟩
             have HT5 := hid ht5
             have t3 := HSE.out _ _ ht5
             clear ht5))
        have hst := (HZ2.out _ _ (fr_drew HW4.out) HT5.out).1
        go_wp2_with fail
        go_ret2
        rw [show RES = ((lt1, 0), (X.setSes k .zero).commit S) from HR2.out]
        exact ⟨rfl, (HZ2.out _ _ (fr_drew HW4.out) HT5.out).2⟩

end Go.Proofs.Ythlhbjnkohinmaa

/- Lists, and what a cell has at a stamp. -/
namespace Go.Proofs.Ythlhbjnkohinmaa
open Go.RowKit

theorem inj_of_nodup {α β : Type} {f : α → β} : ∀ {l : List α}, (l.map f).Nodup → ∀ {a b : α}, a ∈ l → b ∈ l → f a = f b → a = b
  | [], _, _, _, h, _, _ => by cases h
  | x :: l, h, a, b, ha, hb, he => by
    rw [List.map_cons, List.nodup_cons] at h
    rcases List.mem_cons.mp ha with e1 | h1 <;> rcases List.mem_cons.mp hb with e2 | h2
    · rw [e1, e2]
    · exact absurd (List.mem_map.mpr ⟨b, h2, by rw [← he, e1]⟩) h.1
    · exact absurd (List.mem_map.mpr ⟨a, h1, by rw [he, e2]⟩) h.1
    · exact inj_of_nodup h.2 h1 h2 he
theorem length_le_of_nodup : ∀ {l m : List Nat}, l.Nodup → (∀ x ∈ l, x ∈ m) → l.length ≤ m.length
  | [], _, _, _ => Nat.zero_le _
  | a :: l, m, hn, hs => by
    rw [List.nodup_cons] at hn
    have h1 : a ∈ m := hs a (by simp)
    have h2 := length_le_of_nodup (l := l) (m := m.erase a) hn.2 (fun x hx => by
      have hx2 := hs x (by simp [hx])
      have : x ≠ a := fun e => hn.1 (e ▸ hx)
      exact (List.mem_erase_of_ne this).mpr hx2)
    rw [List.length_erase_of_mem h1] at h2
    have : 0 < m.length := List.length_pos_of_mem h1
    simp only [List.length_cons]
    omega
theorem filterMap_same {α β : Type} {f g : α → Option β} : ∀ {l : List α}, (∀ x ∈ l, f x = g x) → l.filterMap f = l.filterMap g
  | [], _ => rfl
  | x :: l, h => by
    have h1 := h x (by simp)
    have h2 := filterMap_same (l := l) (fun y hy => h y (by simp [hy]))
    simp only [List.filterMap_cons, h1, h2]
theorem histAt_snoc (h : List (Int × Option Int)) (p : Int × Option Int) (t : Int) : histAt (h ++ [p]) t = if p.1 ≤ t then p.2 else histAt h t := by
  unfold histAt
  simp only [List.reverse_append, List.reverse_cons, List.reverse_nil, List.nil_append, List.singleton_append, List.find?_cons]
  by_cases e : p.1 ≤ t
  · simp [e]
  · simp [e]

theorem histV_snoc (h : List (Int × Option Int)) (p : Int × Option Int) (t : Int) : histV (h ++ [p]) t = if p.1 ≤ t then p else histV h t := by
  unfold histV
  simp only [List.reverse_append, List.reverse_cons, List.reverse_nil, List.nil_append, List.singleton_append, List.find?_cons]
  by_cases e : p.1 ≤ t
  · simp [e]
  · simp [e]

end Go.Proofs.Ythlhbjnkohinmaa

/- Sweeps, as plain data. -/
namespace Go.Proofs.Ythlhbjnkohinmaa
open Go.RowKit

abbrev Hist := List (Int × Option Int)
/-- Is a version kept by a sweep at t? -/
def baseB (h : Hist) (t : Int) (p : Int × Option Int) : Bool := decide (t < p.1) || (decide (p.1 = (histV h t).1) && p.2.isSome)
def sweptH (h : Hist) (t : Int) : Hist := h.filter (baseB h t)
/-- Versions in the order of their stamps. -/
structure Inc (h : Hist) : Prop where
  ord : h.Pairwise (fun p q => p.1 < q.1)
  pos : ∀ p ∈ h, 1 ≤ p.1
def loH (h : Hist) (t : Int) : Hist := h.filter fun p => decide (p.1 ≤ t)
def hiH (h : Hist) (t : Int) : Hist := h.filter fun p => decide (t < p.1)
theorem Inc.sub {h g : Hist} (hi : Inc h) (hs : g.Sublist h) : Inc g := ⟨hi.ord.sublist hs, fun p hp => hi.pos p (hs.subset hp)⟩
theorem Inc.swept {h : Hist} (hi : Inc h) (t : Int) : Inc (sweptH h t) := hi.sub List.filter_sublist
theorem inc_nil : Inc [] := ⟨List.Pairwise.nil, fun p hp => by cases hp⟩
theorem Inc.snoc {h : Hist} (hi : Inc h) {p : Int × Option Int} (hp : ∀ q ∈ h, q.1 < p.1) (h1 : 1 ≤ p.1) : Inc (h ++ [p]) := by
  refine ⟨?_, fun q hq => ?_⟩
  · rw [List.pairwise_append]
    refine ⟨hi.ord, List.pairwise_singleton _ _, fun a ha b hb => ?_⟩
    rw [List.mem_singleton] at hb
    rw [hb]
    exact hp a ha
  · rcases List.mem_append.mp hq with hq | hq
    · exact hi.pos q hq
    · rw [List.mem_singleton] at hq
      rw [hq]
      exact h1
theorem split_h : ∀ {h : Hist}, h.Pairwise (fun p q => p.1 < q.1) → ∀ t, h = loH h t ++ hiH h t
  | [], _, _ => rfl
  | p :: h, hi, t => by
    rw [List.pairwise_cons] at hi
    have ih := split_h hi.2 t
    unfold loH hiH at *
    by_cases e : p.1 ≤ t
    · rw [List.filter_cons_of_pos (by simpa using e), List.filter_cons_of_neg (by simp; omega), List.cons_append, ← ih]
    · have h0 : h.filter (fun p => decide (p.1 ≤ t)) = [] := by
        rw [List.filter_eq_nil_iff]
        intro q hq
        have := hi.1 q hq
        simp
        omega
      rw [List.filter_cons_of_neg (by simpa using e), List.filter_cons_of_pos (by simp; omega), h0, List.nil_append]
      rw [h0, List.nil_append] at ih
      rw [← ih]
theorem histV_lo (h : Hist) (t : Int) : histV h t = (loH h t).getLast?.getD (0, none) := by
  unfold histV loH
  rw [← List.head?_reverse, ← List.filter_reverse, List.head?_filter]
  cases h.reverse.find? (fun p => decide (p.1 ≤ t)) <;> rfl
/-- What a sweep leaves of what stands up to it. -/
def bareV (p : Int × Option Int) : Hist := if p.2.isSome then [p] else []
theorem swept_eq {h : Hist} (hi : Inc h) (t : Int) : sweptH h t = bareV (histV h t) ++ hiH h t := by
  have hs := split_h hi.ord t
  have h1 : (hiH h t).filter (baseB h t) = hiH h t := by
    rw [List.filter_eq_self]
    intro p hp
    have := (List.mem_filter.mp hp).2
    unfold baseB
    simp only [decide_eq_true_eq] at this
    simp [this]
  have h2 : (loH h t).filter (baseB h t) = bareV (histV h t) := by
    have hp : (loH h t).Pairwise (fun p q => p.1 < q.1) := hi.ord.sublist List.filter_sublist
    have hle : ∀ p ∈ loH h t, ¬ t < p.1 := fun p hp => by
      have := (List.mem_filter.mp hp).2
      simp at this
      omega
    have hv := histV_lo h t
    rcases List.eq_nil_or_concat (loH h t) with e | ⟨A, q, e⟩
    · rw [e] at hv ⊢
      rw [hv]
      rfl
    · rw [List.concat_eq_append] at e
      rw [e] at hv hp hle ⊢
      have hq : histV h t = q := by rw [hv]; simp
      rw [List.filter_append, hq]
      rw [List.pairwise_append] at hp
      have h0 : A.filter (baseB h t) = [] := by
        rw [List.filter_eq_nil_iff]
        intro p hpA
        have a1 := hp.2.2 p hpA q (by simp)
        have a2 := hle p (by simp [hpA])
        unfold baseB
        rw [hq]
        simp [a2]
        omega
      rw [h0, List.nil_append]
      have a3 := hle q (by simp)
      unfold bareV
      simp only [List.filter_cons, List.filter_nil, baseB, hq]
      simp [a3]
  conv => lhs; unfold sweptH
  conv => lhs; arg 2; rw [hs]
  rw [List.filter_append, h1, h2]

/-- The same, as far as a session can see: what is there, and since when. -/
def SeenEq (p q : Int × Option Int) : Prop := p.2 = q.2 ∧ (p.2.isSome = true → p = q)
theorem SeenEq.refl (p : Int × Option Int) : SeenEq p p := ⟨rfl, fun _ => rfl⟩
theorem SeenEq.symm {p q : Int × Option Int} (h : SeenEq p q) : SeenEq q p := ⟨h.1.symm, fun e => (h.2 (by rw [h.1]; exact e)).symm⟩
theorem SeenEq.trans {p q r : Int × Option Int} (h : SeenEq p q) (k : SeenEq q r) : SeenEq p r := ⟨h.1.trans k.1, fun e => (h.2 e).trans (k.2 (by rw [← h.1]; exact e))⟩
theorem lo_lo {h : Hist} {t u : Int} (htu : t ≤ u) (hi : h.Pairwise (fun p q => p.1 < q.1)) : loH h u = loH h t ++ loH (hiH h t) u := by
  conv => lhs; rw [split_h hi t]
  unfold loH
  rw [List.filter_append]
  congr 1
  rw [List.filter_filter]
  apply List.filter_congr
  intro p _
  by_cases e : p.1 ≤ t
  · have : p.1 ≤ u := by omega
    simp [e, this]
  · simp [e]
theorem bare_seen {p : Int × Option Int} (q : Int × Option Int) (hq : q.2 = none) : SeenEq ((bareV p).getLast?.getD q) p := by
  unfold bareV
  cases hp : p.2 with
  | none =>
    simp only [Option.isSome_none, Bool.false_eq_true, if_false, List.getLast?_nil, Option.getD_none]
    exact ⟨by rw [hq, hp], fun e => by rw [hq] at e; cases e⟩
  | some v =>
    simp only [Option.isSome_some, if_true, List.getLast?_singleton, Option.getD_some]
    exact .refl _
theorem swept_seen {h : Hist} (hi : Inc h) {t u : Int} (htu : t ≤ u) : SeenEq (histV (sweptH h t) u) (histV h u) := by
  have e1 : loH (sweptH h t) u = bareV (histV h t) ++ loH (hiH h t) u := by
    rw [swept_eq hi t]
    unfold loH
    rw [List.filter_append]
    congr 1
    rw [List.filter_eq_self]
    intro p hp
    unfold bareV at hp
    split at hp
    · rename_i hs
      rw [List.mem_singleton] at hp
      subst hp
      have : (histV h t).1 ≤ t := by
        unfold histV at hs ⊢
        cases hf : h.reverse.find? (fun p => decide (p.1 ≤ t)) with
        | none => rw [hf] at hs; cases hs
        | some q =>
          have := List.find?_some hf
          simpa using this
      simp
      omega
    · cases hp
  have e2 := lo_lo htu hi.ord
  rw [histV_lo (sweptH h t) u, histV_lo h u, e1, e2]
  rcases List.eq_nil_or_concat (loH (hiH h t) u) with e | ⟨A, q, e⟩
  · rw [e, List.append_nil, List.append_nil, ← histV_lo h t]
    exact bare_seen _ rfl
  · rw [List.concat_eq_append] at e
    rw [e, ← List.append_assoc, ← List.append_assoc]
    simp only [List.getLast?_append, List.getLast?_singleton, Option.some_or, Option.getD_some]
    exact .refl _
theorem bare_eq {p q : Int × Option Int} (h : SeenEq p q) : bareV p = bareV q := by
  unfold bareV
  rw [← h.1]
  split
  · rename_i hs
    rw [h.2 hs]
  · rfl
theorem hi_hi {h : Hist} {t u : Int} (htu : t ≤ u) : hiH (hiH h t) u = hiH h u := by
  unfold hiH
  rw [List.filter_filter]
  apply List.filter_congr
  intro p _
  by_cases e : u < p.1
  · have : t < p.1 := by omega
    simp [e, this]
  · simp [e]
theorem swept_swept {h : Hist} (hi : Inc h) {t u : Int} (htu : t ≤ u) : sweptH (sweptH h t) u = sweptH h u := by
  rw [swept_eq (hi.swept t) u, swept_eq hi u, bare_eq (swept_seen hi htu)]
  congr 1
  rw [swept_eq hi t]
  have : hiH (bareV (histV h t) ++ hiH h t) u = hiH (bareV (histV h t)) u ++ hiH (hiH h t) u := by unfold hiH; rw [List.filter_append]
  rw [this, hi_hi htu]
  have h0 : hiH (bareV (histV h t)) u = [] := by
    unfold hiH
    rw [List.filter_eq_nil_iff]
    intro p hp
    unfold bareV at hp
    split at hp
    · rename_i hs
      rw [List.mem_singleton] at hp
      subst hp
      have : (histV h t).1 ≤ t := by
        unfold histV at hs ⊢
        cases hf : h.reverse.find? (fun p => decide (p.1 ≤ t)) with
        | none => rw [hf] at hs; cases hs
        | some q =>
          have := List.find?_some hf
          simpa using this
      simp
      omega
    · cases hp
  rw [h0, List.nil_append]
theorem swept_snoc {h : Hist} {p : Int × Option Int} {t : Int} (hp : t < p.1) : sweptH (h ++ [p]) t = sweptH h t ++ [p] := by
  have hv : histV (h ++ [p]) t = histV h t := by rw [histV_snoc, if_neg (by omega)]
  unfold sweptH
  rw [List.filter_append]
  have : baseB (h ++ [p]) t = baseB h t := by
    funext q
    unfold baseB
    rw [hv]
  rw [this]
  congr 1
  simp [baseB, hp]
theorem swept_le (h : Hist) (t : Int) : (sweptH h t).length ≤ h.length := List.length_filter_le _ _
theorem swept_low {h : Hist} (hi : Inc h) {t : Int} (hle : ∀ p ∈ h, p.1 ≤ t) : sweptH h t = bareV (histV h t) := by
  rw [swept_eq hi t]
  have : hiH h t = [] := by
    unfold hiH
    rw [List.filter_eq_nil_iff]
    intro p hp
    have := hle p hp
    simp
    omega
  rw [this, List.append_nil]

/-- The engine behind a sweep at t. -/
def PEng.swept (X : PEng) (t : Int) : PEng := { X with hist := fun c => sweptH (X.hist c) t }
/-- The least snapshot of the first places' open sessions, or the latest stamp. -/
def oldN (X : PEng) : Nat → Int
  | 0 => X.latest
  | k + 1 => if 0 < (X.ses k).num ∧ (X.ses k).snap < oldN X k then (X.ses k).snap else oldN X k
def psweepF (X : PEng) : Int × PEng := ((keptN X 60 : Int) - (keptN (X.swept (oldN X 8)) 60 : Int), X.swept (oldN X 8))
theorem kept_swept_le (X : PEng) (t : Int) : ∀ n, keptN (X.swept t) n ≤ keptN X n
  | 0 => Nat.le_refl 0
  | n + 1 => by
    have := kept_swept_le X t n
    have h2 := swept_le (X.hist n) t
    unfold keptN
    show keptN (X.swept t) n + (sweptH (X.hist n) t).length ≤ _
    omega
/-- Is there room for a session's writes, with a sweep if need be? The engine behind that. -/
def roomF (X : PEng) (m : Nat) : Bool × PEng := if ((keptN X 60 + m : Nat) : Int) ≤ X.room then (true, X) else (decide (((keptN (X.swept (oldN X 8)) 60 + m : Nat) : Int) ≤ X.room), X.swept (oldN X 8))
/-- Commit, in engines that may be full. -/
def pcommitG (X : PEng) (n : Int) : (Int × Int) × PEng := match findP X n with
  | none => ((0, 6), X)
  | some k => if hasW (X.ses k) then (if clash X (X.ses k) then ((0, 10), X.setSes k .zero) else (if (roomF X (writN (X.ses k) 60)).1 then ((X.latest + 1, 0), ((roomF X (writN (X.ses k) 60)).2.setSes k .zero).commit (X.ses k)) else ((0, 11), (roomF X (writN (X.ses k) 60)).2))) else ((0, 0), X.setSes k .zero)
theorem pcommitG_room {X : PEng} {n : Int} (h : ∀ k, findP X n = some k → ((keptN X 60 + writN (X.ses k) 60 : Nat) : Int) ≤ X.room) : pcommitG X n = pcommitF X n := by
  unfold pcommitG pcommitF
  cases hf : findP X n with
  | none => rfl
  | some k =>
    have := h k hf
    simp only []
    unfold roomF
    rw [if_pos this]
    rfl

end Go.Proofs.Ythlhbjnkohinmaa

/- Instantiations, as plain data. -/
namespace Go.Proofs.Ythlhbjnkohinmaa
open Go.RowKit

/-- What the variables are: nothing yet, or a digit. -/
abbrev Env := Nat → Option Int
/-- Does a digit go with a term? -/
def goT (e : Env) (t d : Int) : Option Env :=
  if t = 95 then some e
  else if digB t then (if t - 48 = d then some e else none)
  else match e (t - 119).toNat with
    | none => some (upd e (t - 119).toNat (some d))
    | some v => if v = d then some e else none
/-- Does a fact go with a pattern? -/
def goP (e : Env) (c t1 t2 : Int) (q : PFact) : Option Env :=
  if c - 97 = (q.1 : Int) / 10 then (goT e t1 ((q.1 : Int) % 10)).bind fun e1 => goT e1 t2 q.2.1 else none
/-- What a digit or a variable is; z: what one is that is nothing yet. -/
def ofE (z : Int) (e : Env) (t : Int) : Int := if digB t then t - 48 else (e (t - 119).toNat).getD z
def tstB (g a b : Int) : Bool := if g = 60 then decide (a < b) else if g = 61 then decide (a = b) else decide (a ≠ b)

/-- An instantiation, or the beginning of one. -/
structure In where
  rule : Nat
  facts : List PFact
  env : Env
def In.start (r : Nat) : In := ⟨r, [], fun _ => none⟩
/-- Over a pattern. -/
def onP (F : List PFact) (c t1 t2 : Int) (i : In) : List In := F.filterMap fun q => (goP i.env c t1 t2 q).map fun e => ⟨i.rule, i.facts ++ [q], e⟩
def noneB (F : List PFact) (e : Env) (c t1 t2 : Int) : Bool := F.all fun q => (goP e c t1 t2 q).isNone
/-- Over the condition that stands at p. -/
def onC (z : Int) (s : ByteArray) (F : List PFact) (l : List In) (p : Nat) : List In :=
  if bt s p = 33 then l.filter fun i => noneB F i.env (bt s (p + 1)) (bt s (p + 2)) (bt s (p + 3))
  else if clsB (bt s p) then l.flatMap (onP F (bt s p) (bt s (p + 1)) (bt s (p + 2)))
  else l.filter fun i => tstB (bt s (p + 1)) (ofE z i.env (bt s p)) (ofE z i.env (bt s (p + 2)))
/-- Those of one rule. -/
def instR (z : Int) (s : ByteArray) (F : List PFact) (r : Nat) (L : List Nat) : List In := L.foldl (onC z s F) [In.start r]
/-- Those of the first n rules. -/
def instN (z : Int) (s : ByteArray) (F : List PFact) (R : List RuleP) (n : Nat) : List In := (List.range n).flatMap fun r => instR z s F r (R.getD r (0, [], [])).2.1
theorem instN_succ (z : Int) (s : ByteArray) (F : List PFact) (R : List RuleP) (n : Nat) : instN z s F R (n + 1) = instN z s F R n ++ instR z s F n (R.getD n (0, [], [])).2.1 := by
  unfold instN
  rw [List.range_succ, List.flatMap_append]
  simp

theorem onP_len (F : List PFact) (c t1 t2 : Int) (i : In) : (onP F c t1 t2 i).length ≤ F.length := List.length_filterMap_le _ _
theorem flatMap_len {α β : Type} {f : α → List β} {m : Nat} (h : ∀ a, (f a).length ≤ m) : ∀ l : List α, (l.flatMap f).length ≤ l.length * m
  | [] => by simp
  | a :: l => by
    have := flatMap_len h l
    have h2 := h a
    rw [List.flatMap_cons, List.length_append, List.length_cons, Nat.add_mul]
    omega
/-- How many there may be: sixty for each pattern. -/
theorem onC_len (z : Int) (s : ByteArray) (F : List PFact) (hF : F.length ≤ 60) (l : List In) (p : Nat) : (onC z s F l p).length ≤ l.length * 60 := by
  unfold onC
  split
  · have := List.length_filter_le (fun i : In => noneB F i.env (bt s (p + 1)) (bt s (p + 2)) (bt s (p + 3))) l
    omega
  · split
    · exact flatMap_len (fun i => Nat.le_trans (onP_len F _ _ _ i) hF) l
    · have := List.length_filter_le (fun i : In => tstB (bt s (p + 1)) (ofE z i.env (bt s p)) (ofE z i.env (bt s (p + 2)))) l
      omega

/-- What an instantiation's facts, and its variables, are made of. -/
structure InOk (F : List PFact) (i : In) : Prop where
  facts : ∀ q ∈ i.facts, q ∈ F
  env : ∀ n v, i.env n = some v → 0 ≤ v ∧ v ≤ 9
def FOk (F : List PFact) : Prop := ∀ q ∈ F, q.1 < 60 ∧ 0 ≤ q.2.1 ∧ q.2.1 ≤ 9
theorem goT_ok {e e' : Env} {t d : Int} (h : goT e t d = some e') (he : ∀ n v, e n = some v → 0 ≤ v ∧ v ≤ 9) (hd : 0 ≤ d ∧ d ≤ 9) : ∀ n v, e' n = some v → 0 ≤ v ∧ v ≤ 9 := by
  unfold goT at h
  split at h
  · cases h; exact he
  · split at h
    · split at h
      · cases h; exact he
      · cases h
    · split at h
      · cases h
        intro n v hv
        unfold upd at hv
        split at hv
        · cases hv; exact hd
        · exact he n v hv
      · split at h
        · cases h; exact he
        · cases h
theorem goP_ok {e e' : Env} {c t1 t2 : Int} {q : PFact} (h : goP e c t1 t2 q = some e') (he : ∀ n v, e n = some v → 0 ≤ v ∧ v ≤ 9) (hq : q.1 < 60 ∧ 0 ≤ q.2.1 ∧ q.2.1 ≤ 9) : ∀ n v, e' n = some v → 0 ≤ v ∧ v ≤ 9 := by
  unfold goP at h
  split at h
  · cases h1 : goT e t1 ((q.1 : Int) % 10) with
    | none => rw [h1] at h; cases h
    | some e1 =>
      rw [h1] at h
      exact goT_ok h (goT_ok h1 he (by omega)) hq.2
  · cases h
theorem onP_ok {F : List PFact} (hF : FOk F) {c t1 t2 : Int} {i : In} (hi : InOk F i) : ∀ j ∈ onP F c t1 t2 i, InOk F j := by
  intro j hj
  unfold onP at hj
  obtain ⟨q, hq, hm⟩ := List.mem_filterMap.mp hj
  cases hg : goP i.env c t1 t2 q with
  | none => rw [hg] at hm; cases hm
  | some e =>
    rw [hg] at hm
    simp only [Option.map_some, Option.some.injEq] at hm
    rw [← hm]
    refine ⟨fun x hx => ?_, goP_ok hg hi.env (hF q hq)⟩
    rcases List.mem_append.mp hx with hx | hx
    · exact hi.facts x hx
    · simp at hx; rw [hx]; exact hq
theorem onC_ok {z : Int} {s : ByteArray} {F : List PFact} (hF : FOk F) {l : List In} (hl : ∀ i ∈ l, InOk F i) (p : Nat) : ∀ j ∈ onC z s F l p, InOk F j := by
  intro j hj
  unfold onC at hj
  split at hj
  · exact hl j (List.mem_filter.mp hj).1
  · split at hj
    · obtain ⟨i, hi, hm⟩ := List.mem_flatMap.mp hj
      exact onP_ok hF (hl i hi) j hm
    · exact hl j (List.mem_filter.mp hj).1
theorem start_ok (F : List PFact) (r : Nat) : InOk F (In.start r) := ⟨(by intro q hq; cases hq), (by intro n v hv; cases hv)⟩

end Go.Proofs.Ythlhbjnkohinmaa
