/- The program's versions in memory: the whole commit. -/
import Derived.Test.YthlhbjnkohinmaaPs12
namespace Go.Proofs.Ythlhbjnkohinmaa
open Go.RowKit

/-- The engine while a commit is laid: the first k cells are done. -/
def comN (X : PEng) (S : PSes) (k : Nat) : PEng := { X with
  latest := X.latest + 1
  last := fun c => if c < k ∧ (S.wr c).isSome then X.latest + 1 else X.last c
  hist := fun c => if c < k then (match S.wr c with | some v => X.hist c ++ [(X.latest + 1, v)] | none => X.hist c) else X.hist c }
theorem comN_none (X : PEng) (S : PSes) {k : Nat} (h : S.wr k = none) : comN X S (k + 1) = comN X S k := by
  unfold comN
  congr 1
  · funext c
    by_cases e : c = k
    · subst e; simp [h]
    · have : (c < k + 1) = (c < k) := by apply propext; omega
      simp only [this]
  · funext c
    by_cases e : c = k
    · subst e; simp [h]
    · have : (c < k + 1) = (c < k) := by apply propext; omega
      simp only [this]
theorem comN_some (X : PEng) (S : PSes) {k : Nat} {v : Option Int} (h : S.wr k = some v) : comN X S (k + 1) = (comN X S k).addV k (X.latest + 1, v) := by
  unfold comN PEng.addV
  congr 1
  · funext c
    by_cases e : c = k
    · subst e; simp [upd, h]
    · have : (c < k + 1) = (c < k) := by apply propext; omega
      simp only [this, upd, e, if_false]
  · funext c
    by_cases e : c = k
    · subst e; simp [upd, h]
    · have : (c < k + 1) = (c < k) := by apply propext; omega
      simp only [this, upd, e, if_false]

/-- What is said of an engine speaks of its sixty cells. -/
theorem PEngA.congr {x : Nat} {X X' : PEng} {w : World} {f : List Nat} (h : PEngA x X w f) (h0 : X'.src = X.src) (h1 : X'.opened = X.opened) (h2 : X'.ses = X.ses) (h3 : X'.latest = X.latest) (h4 : ∀ c, c < 60 → X'.last c = X.last c) (h5 : ∀ c, c < 60 → X'.hist c = X.hist c) : PEngA x X' w f := by
  obtain ⟨kv, hP, f2, hE, rfl⟩ := h
  refine ⟨kv, ⟨hP.block, by rw [h0]; exact hP.rules, by unfold PEng.room; rw [h0]; exact hP.room, by rw [h1]; exact hP.opened, fun k hk => by rw [h2]; exact hP.ses k hk, ⟨by rw [h3]; exact hP.store.latest, fun c hc => by rw [h4 c hc]; exact hP.store.last c hc, hP.store.kept⟩⟩, f2, ?_, rfl⟩
  have : (List.range 60).map X'.hist = (List.range 60).map X.hist := List.map_congr_left (fun c hc => h5 c (by simpa using hc))
  rw [this]
  exact hE
theorem comN_all {x : Nat} {X : PEng} {S : PSes} {w : World} {f : List Nat} (h : PEngA x (comN X S 60) w f) : PEngA x (X.commit S) w f :=
  h.congr rfl rfl rfl rfl (fun c hc => by simp [comN, PEng.commit, hc]) (fun c hc => by simp only [comN, PEng.commit, hc, if_true]; cases S.wr c <;> rfl)

theorem fr_then {f S : List Nat} {w w1 w2 : World} (h : Fr f w w1) (k : Fr S w1 w2) (hs : ∀ x ∈ S, x ∈ f ∨ w.heap.size ≤ x) : Fr f w w2 :=
  ⟨k.os.trans h.os, k.tape.trans h.tape, k.output.trans h.output, Nat.le_trans h.size k.size, fun i hi hf => (k.block i (Nat.lt_of_lt_of_le hi h.size) (fun e => by rcases hs i e with h | h; exact hf h; omega)).trans (h.block i hi hf)⟩
theorem ATo.then {P P' : Asn} {f : List Nat} {w w1 w2 : World} (h : ATo P f w w1) (k : ∀ f', P w1 f' → f'.Nodup → ATo P' f' w1 w2) : ATo P' f w w2 := by
  obtain ⟨f1, a, n, s, r⟩ := h
  obtain ⟨f2, a2, n2, s2, r2⟩ := k f1 a n
  refine ⟨f2, a2, n2, fun x hx => ?_, fr_then r r2 s⟩
  rcases s2 x hx with h | h
  · exact s x h
  · exact .inr (Nat.le_trans r.size h)

theorem PAt.bump {w : World} {x : Nat} {X : PEng} {kv : Nat → Value} (h : PAt w x X kv) (v : Int) : PAt (w.setCell ⟨x, 1955, none⟩ (.int .i64 v)) x { X with latest := v } kv := by
  obtain ⟨cs, hb⟩ := h.block
  have hc : Chg w (w.setCell ⟨x, 1955, none⟩ (.int .i64 v)) x 1955 1 := (Chg.refl w x 1955 1).set (by omega) (by omega) _
  refine ⟨hc.blk hb, (hc.cell _ (by omega)).trans h.rules, (hc.cell _ (by omega)).trans h.room, (hc.cell _ (by omega)).trans h.opened, fun k hk => (h.ses k hk).other hc (by omega), ⟨?_, fun c hcl => (hc.cell _ (by omega)).trans (h.store.last c hcl), fun c hcl => (hc.cell _ (by omega)).trans (h.store.kept c hcl)⟩⟩
  rw [World.cell?_setCell_same _ _ _ h.store.latest]

set_option maxRecDepth 20000 in
set_option maxHeartbeats 2000000 in
theorem scommit_any (x : Nat) (X : PEng) (S : PSes) (f : List Nat) (w : World) (h : PEngA x X w f) (hn : f.Nodup) (hlat : 0 ≤ X.latest ∧ X.latest < 9223372036854775807) (hl : ∀ c, c < 60 → ((X.hist c).length + 1) * 24 ≤ 140737488355328) :
    Calls Try.prog 56 #[.pointer (some ⟨x, 1955, none⟩), .agg (wrsCells S.wr S.tm).toArray] w fun e w' => e = .returned (.int .i64 (X.latest + 1)) ∧ ATo (PEngA x (X.commit S)) f w w' := by
  have hwi := PEngA.within _ _ h
  obtain ⟨hlat0, hlat1⟩ := hlat
  have hH : w.heap.size ∉ f := fun e => by have := hwi _ e; omega
  obtain ⟨kv, hk0⟩ := h
  obtain ⟨cs, hb⟩ := hk0.1.block
  have c0 := hk0.1.store.latest
  have z0 := frozen_blk hb 1955
  have hxl := lt_of_block hb
  have hxz : x ≠ w.heap.size := by omega
  have HST : Hid (ATo (PEngA x (comN X S 0)) f (w.alloc (.cells (wrsCells S.wr S.tm).toArray 79)) ((w.setCell ⟨x, 1955, none⟩ (.int .i64 (X.latest + 1))).alloc (.cells (wrsCells S.wr S.tm).toArray 79))) := hid (by
    have hp : PNext x { X with latest := X.latest + 1 } kv (w.alloc (.cells (wrsCells S.wr S.tm).toArray 79)) ((w.setCell ⟨x, 1955, none⟩ (.int .i64 (X.latest + 1))).alloc (.cells (wrsCells S.wr S.tm).toArray 79)) := by
      refine ⟨(hk0.1.bump (X.latest + 1)).fr (fr_alloc _ _) (by simp), ?_⟩
      have e : (w.alloc (.cells (wrsCells S.wr S.tm).toArray 79)).setCell ⟨x, 1955, none⟩ (.int .i64 (X.latest + 1)) = (w.setCell ⟨x, 1955, none⟩ (.int .i64 (X.latest + 1))).alloc (.cells (wrsCells S.wr S.tm).toArray 79) := World.setCell_alloc_past _ x 1955 _ hxl
      rw [← e]
      exact (Fr.refl [x] _).set (.inl (by simp)) _
    have := PNext.to (X' := { X with latest := X.latest + 1 }) (PEngK.framed kv x X hk0 (fr_alloc w _) (by simp)) hn rfl hp
    obtain ⟨f', a, n, s, r⟩ := this
    exact ⟨f', a.congr rfl rfl rfl rfl (fun c hc => by simp [comN]) (fun c hc => by simp [comN]), n, s, r⟩)
  have HM : Hid (∀ c, c < 60 → (w.alloc (.cells (wrsCells S.wr S.tm).toArray 79)).cell? ⟨w.heap.size, c * 4, none⟩ = some (.bool (wMade (S.wr c))) ∧ (w.alloc (.cells (wrsCells S.wr S.tm).toArray 79)).cell? ⟨w.heap.size, c * 4 + 1, none⟩ = some (.bool (wFilled (S.wr c))) ∧ (w.alloc (.cells (wrsCells S.wr S.tm).toArray 79)).cell? ⟨w.heap.size, c * 4 + 2, none⟩ = some (.int .i64 (wVal (S.wr c)))) := hid (fun c hc => by
    have e : ∀ i, (w.alloc (.cells (wrsCells S.wr S.tm).toArray 79)).cell? ⟨w.heap.size, i, none⟩ = (wrsCells S.wr S.tm)[i]? := fun i => by rw [cell_of_row _ _ _ _ _ _ (heap_alloc_new w _)]; simp
    rw [e, e, e]
    exact ⟨(wrsCells_at S.wr S.tm hc).1, (wrsCells_at S.wr S.tm hc).2.1, (wrsCells_at S.wr S.tm hc).2.2.1⟩)
  obtain ⟨ca, hca⟩ : ∃ ca, ca = (wrsCells S.wr S.tm).toArray := ⟨_, rfl⟩
  rw [← hca] at HST HM ⊢
  have HHL := hid hl
  have HH := hid hH
  have HWI := hid hwi
  clear hca hk0 hb hn hl hH hwi
  obtain ⟨lt, hlt0⟩ : ∃ lt, lt = X.latest := ⟨_, rfl⟩
  have HLT := hid hlt0
  rw [← hlt0] at c0 hlat0 hlat1 HST ⊢
  clear hlt0
  go_enter Try.func56, Try.ntmps56
  go_wp2_with fail
  generalize hw0 : w.alloc (.cells ca 79) = w0 at HST HM
  have hHw0 : w.heap.size < w0.heap.size := by rw [← hw0]; simp
  have HF0 : Hid (Fr [] w w0) := hid (by rw [← hw0]; exact fr_alloc w _)
  clear hw0
  go_loopw [5] (fun t wr => ∃ k : Nat, k ≤ 60 ∧ t = .int .i64 k ∧ ATo (PEngA x (comN X S k)) f w0 wr) (fun t _ => 60 - (intOf t).toNat)
  case atStart => exact ⟨0, by omega, rfl, HST.out⟩
  case round =>
    obtain ⟨k, hk, rfl, hat⟩ := hrel
    have HATO := hid hat
    obtain ⟨f1, a1, n1, s1, r1⟩ := hat
    have hH1 : w.heap.size ∉ f1 := fun e => by
      rcases s1 _ e with h | h
      · exact HH.out h
      · omega
    have l0 : wr.cell? ⟨x, 1955, none⟩ = some (.int .i64 (lt + 1)) := by
      obtain ⟨kv1, hp1, _⟩ := a1
      rw [HLT.out]
      exact hp1.store.latest
    by_cases hlt : k < 60
    · obtain ⟨m0, m1, m2⟩ := HM.out k hlt
      have d0 := keepc r1 m0 HH.out
      have d1 := keepc r1 m1 HH.out
      have d2 := keepc r1 m2 HH.out
      clear m0 m1 m2
      cases hw : S.wr k with
      | none =>
        rw [hw] at d0
        have HN := hid (comN_none X S hw)
        simp only [wMade, Option.isSome_none] at d0
        clear hw d1 d2 a1 s1 r1 n1 hH1
        go_wp2_with fail
        go_roundw
        case rel => exact ⟨k + 1, by omega, by go_num, by rw [HN.out]; exact HATO.out⟩
        case measure => simp [intOf]; omega
      | some v =>
        rw [hw] at d0 d1 d2
        have e1 : wFilled (some v) = v.isSome := by cases v <;> rfl
        have e2 : wVal (some v) = v.getD 0 := by cases v <;> rfl
        rw [e1] at d1
        rw [e2] at d2
        simp only [wMade, Option.isSome_some] at d0
        have HS := hid (comN_some X S hw)
        have HADD : Hid (∀ W, Fr [] wr W → Calls Try.prog 72 #[.pointer (some ⟨x, 1955 + 1 + k * 2, none⟩), .agg #[.int .i64 (lt + 1), .bool v.isSome, .int .i64 (v.getD 0)]] W fun e w' => e = .returned (.tuple #[]) ∧ ATo (PEngA x (comN X S (k + 1))) f1 W w') := hid (fun W hW => by
          rw [HS.out, HLT.out]
          refine padd_any x (comN X S k) f1 k (X.latest + 1) v W hlt (PEngA.framed _ _ a1 hW (by simp)) n1 ?_
          have : (comN X S k).hist k = X.hist k := by simp [comN]
          rw [this]
          exact HHL.out k hlt)
        obtain ⟨vf, hvf⟩ : ∃ vf, vf = v.isSome := ⟨_, rfl⟩
        obtain ⟨vv, hvv⟩ : ∃ vv, vv = v.getD 0 := ⟨_, rfl⟩
        rw [← hvf] at d1 HADD
        rw [← hvv] at d2 HADD
        have HS1 := hid s1
        have HR1 := hid r1
        have HLAT : Hid (∀ W f2, PEngA x (comN X S (k + 1)) W f2 → W.cell? ⟨x, 1955, none⟩ = some (.int .i64 (lt + 1))) := hid (fun W f2 hp => by
          obtain ⟨kv1, hp1, _⟩ := hp
          rw [HLT.out]
          exact hp1.store.latest)
        clear hw e1 e2 hvf hvv a1 s1 r1 n1
        have hk0' : (0 : Int) ≤ (k : Int) := by omega
        have hk1' : (k : Int) < 60 := by omega
        go_wp2_with fail
        go_region_held3 (fun W => W.cell? ⟨x, 1955, none⟩ = some (.int .i64 (lt + 1)) ∧ W.cell? ⟨w.heap.size, k * 4 + 1, none⟩ = some (.bool vf) ∧ W.cell? ⟨w.heap.size, k * 4 + 2, none⟩ = some (.int .i64 vv)) (first | go_keep | (exact ⟨j0, j1, j2⟩)) (first
          | (go_at_call 72
             refine (HADD.out _ (fr_drew (Fr.refl _ _))).mono ?_
             rintro e w2 ⟨rfl, hat2⟩
             have HAT2 := hid hat2
             obtain ⟨f2, b2, _, _, r2⟩ := hat2
             have j0 := HLAT.out _ _ b2
             have j1 := keepc r2 (keep0 (fr_drew (Fr.refl _ _)) d1) hH1
             have j2 := keepc r2 (keep0 (fr_drew (Fr.refl _ _)) d2) hH1
             clear r2 b2))
        go_wp2_with fail
        go_roundw
        case rel =>
          obtain ⟨f2, b2, n2, s2, r2⟩ := HAT2.out.before (fr_drew (Fr.refl [] wr))
          refine ⟨k + 1, by omega, by go_num, f2, b2, n2, fun y hy => ?_, fr_then HR1.out r2 HS1.out⟩
          rcases s2 y hy with h | h
          · exact HS1.out y h
          · exact .inr (Nat.le_trans HR1.out.size h)
        case measure => simp [intOf]; omega
    · have hk60 : k = 60 := by omega
      subst hk60
      clear a1 s1 r1 n1 hH1
      go_wp2_with fail
      go_ret
      refine ⟨rfl, ?_⟩
      obtain ⟨f2, a2, n2, s2, r2⟩ := HATO.out.before HF0.out
      exact ⟨f2, comN_all a2, n2, s2, r2⟩

end Go.Proofs.Ythlhbjnkohinmaa
