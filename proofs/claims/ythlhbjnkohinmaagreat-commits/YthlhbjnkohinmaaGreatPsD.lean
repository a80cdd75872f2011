import Derived.Test.YthlhbjnkohinmaaGreatPs11
import Derived.Test.YthlhbjnkohinmaaGreatPmem
/- The program's versions in memory: a commit. -/
namespace Go.Proofs.YthlhbjnkohinmaaGreat
open Go.RowKit

/-- One version more of a cell. -/
def PEng.addV (X : PEng) (c : Nat) (p : Int × Option Int) : PEng := { X with last := upd X.last c p.1, hist := upd X.hist c (X.hist c ++ [p]) }

theorem range_map_upd {α : Type} (f : Nat → α) (c : Nat) (v : α) (n : Nat) : (List.range n).map (upd f c v) = ((List.range n).map f).set c v := by
  apply List.ext_getElem
  · simp
  intro i h1 h2
  simp only [List.getElem_map, List.getElem_range, List.getElem_set]
  by_cases e : c = i
  · subst e; simp [upd]
  · rw [if_neg e, upd_ne _ _ _ (fun h => e h.symm)]

theorem PAt.of_block {w : World} {x : Nat} {X : PEng} {kv : Nat → Value} {cs : Array Value} (h : PAt w x X kv) (hb : w.heap[x]? = some (.cells cs 91 (0, 0))) {w' : World} {c : Nat} (hc : c < 60) (st : Int) (nv : Value)
    (hb' : w'.heap[x]? = some (.cells ((cs.setIfInBounds (1955 + 1 + c * 2) (.int .i64 st)).setIfInBounds (1955 + 1 + c * 2 + 1) nv) 91 (0, 0))) (p : Option Int) :
    PAt w' x (X.addV c (st, p)) (upd kv c nv) := by
  have e0 : ∀ i v, w.cell? ⟨x, i, none⟩ = some v → cs[i]? = some v := fun i v hv => by rw [cell_of_row _ _ _ _ _ _ hb] at hv; exact hv
  have far : ∀ i v, i ≠ 1955 + 1 + c * 2 → i ≠ 1955 + 1 + c * 2 + 1 → w.cell? ⟨x, i, none⟩ = some v → w'.cell? ⟨x, i, none⟩ = some v := fun i v h1 h2 hv => by
    rw [cell_of_row _ _ _ _ _ _ hb', Array.getElem?_setIfInBounds_ne (fun e => h2 e.symm), Array.getElem?_setIfInBounds_ne (fun e => h1 e.symm)]
    exact e0 i v hv
  have hsz : 1955 + 1 + c * 2 + 1 < cs.size := (Array.getElem?_eq_some_iff.mp (e0 _ _ (h.store.kept c hc))).1
  refine ⟨⟨_, hb'⟩, far _ _ (by omega) (by omega) h.rules, far _ _ (by omega) (by omega) h.room, far _ _ (by omega) (by omega) h.opened, fun k hk => ?_, ⟨far _ _ (by omega) (by omega) h.store.latest, fun d hd => ?_, fun d hd => ?_⟩⟩
  · have hs := h.ses k hk
    exact ⟨far _ _ (by omega) (by omega) hs.num, far _ _ (by omega) (by omega) hs.snap, far _ _ (by omega) (by omega) hs.cnt, fun d hd => far _ _ (by omega) (by omega) (hs.made d hd), fun d hd => far _ _ (by omega) (by omega) (hs.filled d hd), fun d hd => far _ _ (by omega) (by omega) (hs.val d hd), fun d hd => far _ _ (by omega) (by omega) (hs.tm d hd), far _ _ (by omega) (by omega) hs.mks, hs.ok⟩
  · show World.cell? _ _ = some (Value.int .i64 (upd X.last c st d))
    by_cases e : d = c
    · subst e
      rw [upd_same, cell_of_row _ _ _ _ _ _ hb', Array.getElem?_setIfInBounds_ne (by omega), Array.getElem?_setIfInBounds_self_of_lt (by omega)]
    · rw [upd_ne _ _ _ e]
      exact far _ _ (by omega) (by omega) (h.store.last d hd)
  · by_cases e : d = c
    · subst e
      rw [upd_same, cell_of_row _ _ _ _ _ _ hb', Array.getElem?_setIfInBounds_self_of_lt (by simp; omega)]
    · rw [upd_ne _ _ _ e]
      exact far _ _ (by omega) (by omega) (h.store.kept d hd)

/-- The engine behind one version more. -/
theorem padd_any (x : Nat) (X : PEng) (f : List Nat) (c : Nat) (st : Int) (q : Option Int) (w : World) (hc : c < 60) (h : PEngA x X w f) (hn : f.Nodup) (hl : ((X.hist c).length + 1) * 24 ≤ 140737488355328) :
    Calls Tryz.prog 86 #[.pointer (some ⟨x, 1955 + 1 + c * 2, none⟩), .agg #[.int .i64 st, .bool q.isSome, .int .i64 (q.getD 0)]] w fun e w' => e = .returned (.tuple #[]) ∧ ATo (PEngA x (X.addV c (st, q))) f w w' := by
  have hwi := PEngA.within _ _ h
  obtain ⟨kv, hP, f2, hE, rfl⟩ := h
  obtain ⟨cs, hb⟩ := hP.block
  have hkc := hP.store.kept c hc
  have hlen1 : c < ((List.range 60).map kv).length := by simpa using hc
  have hlen2 : c < ((List.range 60).map X.hist).length := by simpa using hc
  obtain ⟨fa, g, fb, hh, e2, hput⟩ := EachA.focus HistA.framed hE c hlen1 hlen2
  subst e2
  simp only [List.getElem_map, List.getElem_range] at hh
  obtain ⟨hrow, rfl⟩ := hh
  obtain ⟨a, m, cp, hkv⟩ := own_slice hrow
  rw [hkv] at hrow hkc hn hwi
  have em := own_len hrow
  subst em
  have hcs : cs[1955 + 1 + c * 2 + 1]? = some (.slice a (X.hist c).length cp) := by rw [cell_of_row _ _ _ _ _ _ hb] at hkc; exact hkc
  have hsz := (Array.getElem?_eq_some_iff.mp hcs).1
  refine (add_core x (1955 + 1 + c * 2) (X.hist c) st q a cp cs w hl hb hsz hcs hrow).mono ?_
  rintro e w' ⟨rfl, g3, c', w3, hg3, hown3, hb3, rfl, hfr⟩
  refine ⟨rfl, ?_⟩
  have hb4 : (w3.setCell ⟨x, 1955 + 1 + c * 2 + 1, none⟩ (.slice (some ⟨g3, 0, none⟩) ((X.hist c).length + 1) c')).heap[x]? = some (.cells ((cs.setIfInBounds (1955 + 1 + c * 2) (.int .i64 st)).setIfInBounds (1955 + 1 + c * 2 + 1) (.slice (some ⟨g3, 0, none⟩) ((X.hist c).length + 1) c')) 91 (0, 0)) := blk_setCell hb3 _ _
  have hP' := hP.of_block hb hc st _ hb4 q
  have hfr4 : Fr (x :: (Value.slice a (X.hist c).length cp).ownBlock.toList) w (w3.setCell ⟨x, 1955 + 1 + c * 2 + 1, none⟩ (.slice (some ⟨g3, 0, none⟩) ((X.hist c).length + 1) c')) := hfr.set (.inl (by simp)) _
  have hn2 : ((x :: fa) ++ ((Value.slice a (X.hist c).length cp).ownBlock.toList ++ fb)).Nodup := by simpa using hn
  have hdis : ∀ k, k ∈ fa ∨ k ∈ fb → k ∉ x :: (Value.slice a (X.hist c).length cp).ownBlock.toList := by
    intro k hk hk2
    rw [List.nodup_append] at hn2
    obtain ⟨n1, n2, d1⟩ := hn2
    rw [List.nodup_cons] at n1
    rw [List.nodup_append] at n2
    rcases List.mem_cons.mp hk2 with e | e
    · subst e
      rcases hk with h | h
      · exact n1.1 h
      · exact d1 k (by simp) k (by simp [h]) rfl
    · rcases hk with h | h
      · exact d1 k (by simp [h]) k (List.mem_append_left _ e) rfl
      · exact n2.2.2 k e k h rfl
  have hH : HistA (.slice (some ⟨g3, 0, none⟩) ((X.hist c).length + 1) c') (X.hist c ++ [(st, q)]) (w3.setCell ⟨x, 1955 + 1 + c * 2 + 1, none⟩ (.slice (some ⟨g3, 0, none⟩) ((X.hist c).length + 1) c')) [g3] := by
    refine ⟨?_, rfl⟩
    simp only [List.length_append, List.length_cons, List.length_nil]
    exact ownsRow_setCell_other hown3 (own_ne_ty hown3 hb3 (by decide)) _
  have hE' := hput _ _ _ _ _ hH hfr4 (fun k hk => hdis k (.inl hk)) (fun k hk => hdis k (.inr hk))
  have hg4 : g3 ∈ (Value.slice a (X.hist c).length cp).ownBlock.toList ∨ w.heap.size ≤ g3 := by
    rcases hg3 with h | h
    · exact .inl (by rw [h]; simp)
    · exact .inr h
  refine ⟨x :: (fa ++ ([g3] ++ fb)), ⟨_, hP', _, ?_, rfl⟩, ?_, ?_, ?_⟩
  · show EachA HistA ((List.range 60).map (upd kv c _)) ((List.range 60).map (upd X.hist c _)) _ _
    rw [range_map_upd, range_map_upd]
    exact hE'
  · have := nodup_swap (fa := x :: fa) (g := (Value.slice a (X.hist c).length cp).ownBlock.toList) (g' := [g3]) (fb := fb) (N := w.heap.size) hn2 (fun k hk => hwi k (by simpa using hk)) (by simp) (fun k hk => by simp only [List.mem_singleton] at hk; subst hk; exact hg4)
    simpa using this
  · intro k hk
    rw [hkv]
    have : k = g3 → k ∈ (Value.slice a (X.hist c).length cp).ownBlock.toList ∨ w.heap.size ≤ k := fun e => by subst e; exact hg4
    simp only [List.mem_cons, List.mem_append, List.not_mem_nil, or_false] at hk ⊢
    grind
  · rw [hkv]
    exact hfr4.mono (fun k hk => .inl (by simp only [List.mem_cons, List.mem_append] at hk ⊢; grind))

end Go.Proofs.YthlhbjnkohinmaaGreat

/- The program's versions in memory: the whole commit. -/
namespace Go.Proofs.YthlhbjnkohinmaaGreat
open Go.RowKit

/-- The engine while a commit is laid: the first k cells are done. -/
def comN (X : PEng) (S : PSes) (k : Nat) : PEng := { X with
  latest := X.latest + 1
  last := fun c => if c < k ∧ (S.wr c).isSome then X.latest + 1 else X.last c
  hist := fun c => if c < k then (match S.wr c with | some v => X.hist c ++ [(X.latest + 1, v)] | none => X.hist c) else X.hist c }
theorem comN_none (X : PEng) (S : PSes) {k : Nat} (h : S.wr k = none) : comN X S (k + 1) = comN X S k := by
  unfold comN
  congr 1
  · funext c
    by_cases e : c = k
    · subst e; simp [h]
    · have : (c < k + 1) = (c < k) := by apply propext; omega
      simp only [this]
  · funext c
    by_cases e : c = k
    · subst e; simp [h]
    · have : (c < k + 1) = (c < k) := by apply propext; omega
      simp only [this]
theorem comN_some (X : PEng) (S : PSes) {k : Nat} {v : Option Int} (h : S.wr k = some v) : comN X S (k + 1) = (comN X S k).addV k (X.latest + 1, v) := by
  unfold comN PEng.addV
  congr 1
  · funext c
    by_cases e : c = k
    · subst e; simp [upd, h]
    · have : (c < k + 1) = (c < k) := by apply propext; omega
      simp only [this, upd, e, if_false]
  · funext c
    by_cases e : c = k
    · subst e; simp [upd, h]
    · have : (c < k + 1) = (c < k) := by apply propext; omega
      simp only [this, upd, e, if_false]

/-- What is said of an engine speaks of its sixty cells. -/
theorem PEngA.congr {x : Nat} {X X' : PEng} {w : World} {f : List Nat} (h : PEngA x X w f) (h0 : X'.src = X.src) (h1 : X'.opened = X.opened) (h2 : X'.ses = X.ses) (h3 : X'.latest = X.latest) (h4 : ∀ c, c < 60 → X'.last c = X.last c) (h5 : ∀ c, c < 60 → X'.hist c = X.hist c) : PEngA x X' w f := by
  obtain ⟨kv, hP, f2, hE, rfl⟩ := h
  refine ⟨kv, ⟨hP.block, by rw [h0]; exact hP.rules, by unfold PEng.room; rw [h0]; exact hP.room, by rw [h1]; exact hP.opened, fun k hk => by rw [h2]; exact hP.ses k hk, ⟨by rw [h3]; exact hP.store.latest, fun c hc => by rw [h4 c hc]; exact hP.store.last c hc, hP.store.kept⟩⟩, f2, ?_, rfl⟩
  have : (List.range 60).map X'.hist = (List.range 60).map X.hist := List.map_congr_left (fun c hc => h5 c (by simpa using hc))
  rw [this]
  exact hE
theorem comN_all {x : Nat} {X : PEng} {S : PSes} {w : World} {f : List Nat} (h : PEngA x (comN X S 60) w f) : PEngA x (X.commit S) w f :=
  h.congr rfl rfl rfl rfl (fun c hc => by simp [comN, PEng.commit, hc]) (fun c hc => by simp only [comN, PEng.commit, hc, if_true]; cases S.wr c <;> rfl)

theorem fr_then {f S : List Nat} {w w1 w2 : World} (h : Fr f w w1) (k : Fr S w1 w2) (hs : ∀ x ∈ S, x ∈ f ∨ w.heap.size ≤ x) : Fr f w w2 :=
  ⟨k.os.trans h.os, k.tape.trans h.tape, k.output.trans h.output, Nat.le_trans h.size k.size, fun i hi hf => (k.block i (Nat.lt_of_lt_of_le hi h.size) (fun e => by rcases hs i e with h | h; exact hf h; omega)).trans (h.block i hi hf)⟩
theorem ATo.then {P P' : Asn} {f : List Nat} {w w1 w2 : World} (h : ATo P f w w1) (k : ∀ f', P w1 f' → f'.Nodup → ATo P' f' w1 w2) : ATo P' f w w2 := by
  obtain ⟨f1, a, n, s, r⟩ := h
  obtain ⟨f2, a2, n2, s2, r2⟩ := k f1 a n
  refine ⟨f2, a2, n2, fun x hx => ?_, fr_then r r2 s⟩
  rcases s2 x hx with h | h
  · exact s x h
  · exact .inr (Nat.le_trans r.size h)

theorem PAt.bump {w : World} {x : Nat} {X : PEng} {kv : Nat → Value} (h : PAt w x X kv) (v : Int) : PAt (w.setCell ⟨x, 1955, none⟩ (.int .i64 v)) x { X with latest := v } kv := by
  obtain ⟨cs, hb⟩ := h.block
  have hc : Chg w (w.setCell ⟨x, 1955, none⟩ (.int .i64 v)) x 1955 1 := (Chg.refl w x 1955 1).set (by omega) (by omega) _
  refine ⟨hc.blk hb, (hc.cell _ (by omega)).trans h.rules, (hc.cell _ (by omega)).trans h.room, (hc.cell _ (by omega)).trans h.opened, fun k hk => (h.ses k hk).other hc (by omega), ⟨?_, fun c hcl => (hc.cell _ (by omega)).trans (h.store.last c hcl), fun c hcl => (hc.cell _ (by omega)).trans (h.store.kept c hcl)⟩⟩
  rw [World.cell?_setCell_same _ _ _ h.store.latest]

set_option maxRecDepth 20000 in
set_option maxHeartbeats 2000000 in
theorem scommit_any (x : Nat) (X : PEng) (S : PSes) (f : List Nat) (w : World) (h : PEngA x X w f) (hn : f.Nodup) (hlat : 0 ≤ X.latest ∧ X.latest < 9223372036854775807) (hl : ∀ c, c < 60 → ((X.hist c).length + 1) * 24 ≤ 140737488355328) :
    Calls Tryz.prog 57 #[.pointer (some ⟨x, 1955, none⟩), .agg (wrsCells S.wr S.tm).toArray] w fun e w' => e = .returned (.int .i64 (X.latest + 1)) ∧ ATo (PEngA x (X.commit S)) f w w' := by
  have hwi := PEngA.within _ _ h
  obtain ⟨hlat0, hlat1⟩ := hlat
  have hH : w.heap.size ∉ f := fun e => by have := hwi _ e; omega
  obtain ⟨kv, hk0⟩ := h
  obtain ⟨cs, hb⟩ := hk0.1.block
  have c0 := hk0.1.store.latest
  have z0 := frozen_blk hb 1955
  have hxl := lt_of_block hb
  have hxz : x ≠ w.heap.size := by omega
  have HST : Hid (ATo (PEngA x (comN X S 0)) f (w.alloc (.cells (wrsCells S.wr S.tm).toArray 77)) ((w.setCell ⟨x, 1955, none⟩ (.int .i64 (X.latest + 1))).alloc (.cells (wrsCells S.wr S.tm).toArray 77))) := hid (by
    have hp : PNext x { X with latest := X.latest + 1 } kv (w.alloc (.cells (wrsCells S.wr S.tm).toArray 77)) ((w.setCell ⟨x, 1955, none⟩ (.int .i64 (X.latest + 1))).alloc (.cells (wrsCells S.wr S.tm).toArray 77)) := by
      refine ⟨(hk0.1.bump (X.latest + 1)).fr (fr_alloc _ _) (by simp), ?_⟩
      have e : (w.alloc (.cells (wrsCells S.wr S.tm).toArray 77)).setCell ⟨x, 1955, none⟩ (.int .i64 (X.latest + 1)) = (w.setCell ⟨x, 1955, none⟩ (.int .i64 (X.latest + 1))).alloc (.cells (wrsCells S.wr S.tm).toArray 77) := World.setCell_alloc_past _ x 1955 _ hxl
      rw [← e]
      exact (Fr.refl [x] _).set (.inl (by simp)) _
    have := PNext.to (X' := { X with latest := X.latest + 1 }) (PEngK.framed kv x X hk0 (fr_alloc w _) (by simp)) hn rfl hp
    obtain ⟨f', a, n, s, r⟩ := this
    exact ⟨f', a.congr rfl rfl rfl rfl (fun c hc => by simp [comN]) (fun c hc => by simp [comN]), n, s, r⟩)
  have HM : Hid (∀ c, c < 60 → (w.alloc (.cells (wrsCells S.wr S.tm).toArray 77)).cell? ⟨w.heap.size, c * 4, none⟩ = some (.bool (wMade (S.wr c))) ∧ (w.alloc (.cells (wrsCells S.wr S.tm).toArray 77)).cell? ⟨w.heap.size, c * 4 + 1, none⟩ = some (.bool (wFilled (S.wr c))) ∧ (w.alloc (.cells (wrsCells S.wr S.tm).toArray 77)).cell? ⟨w.heap.size, c * 4 + 2, none⟩ = some (.int .i64 (wVal (S.wr c)))) := hid (fun c hc => by
    have e : ∀ i, (w.alloc (.cells (wrsCells S.wr S.tm).toArray 77)).cell? ⟨w.heap.size, i, none⟩ = (wrsCells S.wr S.tm)[i]? := fun i => by rw [cell_of_row _ _ _ _ _ _ (heap_alloc_new w _)]; simp
    rw [e, e, e]
    exact ⟨(wrsCells_at S.wr S.tm hc).1, (wrsCells_at S.wr S.tm hc).2.1, (wrsCells_at S.wr S.tm hc).2.2.1⟩)
  obtain ⟨ca, hca⟩ : ∃ ca, ca = (wrsCells S.wr S.tm).toArray := ⟨_, rfl⟩
  rw [← hca] at HST HM ⊢
  have HHL := hid hl
  have HH := hid hH
  have HWI := hid hwi
  clear hca hk0 hb hn hl hH hwi
  obtain ⟨lt, hlt0⟩ : ∃ lt, lt = X.latest := ⟨_, rfl⟩
  have HLT := hid hlt0
  rw [← hlt0] at c0 hlat0 hlat1 HST ⊢
  clear hlt0
  go_enter Tryz.func57, Tryz.ntmps57
  go_wp2_with fail
  generalize hw0 : w.alloc (.cells ca 77) = w0 at HST HM
  have hHw0 : w.heap.size < w0.heap.size := by rw [← hw0]; simp
  have HF0 : Hid (Fr [] w w0) := hid (by rw [← hw0]; exact fr_alloc w _)
  clear hw0
  go_loopw [5] (fun t wr => ∃ k : Nat, k ≤ 60 ∧ t = .int .i64 k ∧ ATo (PEngA x (comN X S k)) f w0 wr) (fun t _ => 60 - (intOf t).toNat)
  case atStart => exact ⟨0, by omega, rfl, HST.out⟩
  case round =>
    obtain ⟨k, hk, rfl, hat⟩ := hrel
    have HATO := hid hat
    obtain ⟨f1, a1, n1, s1, r1⟩ := hat
    have hH1 : w.heap.size ∉ f1 := fun e => by
      rcases s1 _ e with h | h
      · exact HH.out h
      · omega
    have l0 : wr.cell? ⟨x, 1955, none⟩ = some (.int .i64 (lt + 1)) := by
      obtain ⟨kv1, hp1, _⟩ := a1
      rw [HLT.out]
      exact hp1.store.latest
    by_cases hlt : k < 60
    · obtain ⟨m0, m1, m2⟩ := HM.out k hlt
      have d0 := keepc r1 m0 HH.out
      have d1 := keepc r1 m1 HH.out
      have d2 := keepc r1 m2 HH.out
      clear m0 m1 m2
      cases hw : S.wr k with
      | none =>
        rw [hw] at d0
        have HN := hid (comN_none X S hw)
        simp only [wMade, Option.isSome_none] at d0
        clear hw d1 d2 a1 s1 r1 n1 hH1
        go_wp2_with fail
        go_roundw
        case rel => exact ⟨k + 1, by omega, by go_num, by rw [HN.out]; exact HATO.out⟩
        case measure => simp [intOf]; omega
      | some v =>
        rw [hw] at d0 d1 d2
        have e1 : wFilled (some v) = v.isSome := by cases v <;> rfl
        have e2 : wVal (some v) = v.getD 0 := by cases v <;> rfl
        rw [e1] at d1
        rw [e2] at d2
        simp only [wMade, Option.isSome_some] at d0
        have HS := hid (comN_some X S hw)
        have HADD : Hid (∀ W, Fr [] wr W → Calls Tryz.prog 86 #[.pointer (some ⟨x, 1955 + 1 + k * 2, none⟩), .agg #[.int .i64 (lt + 1), .bool v.isSome, .int .i64 (v.getD 0)]] W fun e w' => e = .returned (.tuple #[]) ∧ ATo (PEngA x (comN X S (k + 1))) f1 W w') := hid (fun W hW => by
          rw [HS.out, HLT.out]
          refine padd_any x (comN X S k) f1 k (X.latest + 1) v W hlt (PEngA.framed _ _ a1 hW (by simp)) n1 ?_
          have : (comN X S k).hist k = X.hist k := by simp [comN]
          rw [this]
          exact HHL.out k hlt)
        obtain ⟨vf, hvf⟩ : ∃ vf, vf = v.isSome := ⟨_, rfl⟩
        obtain ⟨vv, hvv⟩ : ∃ vv, vv = v.getD 0 := ⟨_, rfl⟩
        rw [← hvf] at d1 HADD
        rw [← hvv] at d2 HADD
        have HS1 := hid s1
        have HR1 := hid r1
        have HLAT : Hid (∀ W f2, PEngA x (comN X S (k + 1)) W f2 → W.cell? ⟨x, 1955, none⟩ = some (.int .i64 (lt + 1))) := hid (fun W f2 hp => by
          obtain ⟨kv1, hp1, _⟩ := hp
          rw [HLT.out]
          exact hp1.store.latest)
        clear hw e1 e2 hvf hvv a1 s1 r1 n1
        have hk0' : (0 : Int) ≤ (k : Int) := by omega
        have hk1' : (k : Int) < 60 := by omega
        go_wp2_with fail
        go_region_held3 (fun W => W.cell? ⟨x, 1955, none⟩ = some (.int .i64 (lt + 1)) ∧ W.cell? ⟨w.heap.size, k * 4 + 1, none⟩ = some (.bool vf) ∧ W.cell? ⟨w.heap.size, k * 4 + 2, none⟩ = some (.int .i64 vv)) (first | go_keep | (exact ⟨j0, j1, j2⟩)) (first
          | (go_at_call 86
             refine (HADD.out _ (fr_drew (Fr.refl _ _))).mono ?_
             rintro e w2 ⟨rfl, hat2⟩
             have HAT2 := hid hat2
             obtain ⟨f2, b2, _, _, r2⟩ := hat2
             have j0 := HLAT.out _ _ b2
             have j1 := keepc r2 (keep0 (fr_drew (Fr.refl _ _)) d1) hH1
             have j2 := keepc r2 (keep0 (fr_drew (Fr.refl _ _)) d2) hH1
             clear r2 b2))
        go_wp2_with fail
        go_roundw
        case rel =>
          obtain ⟨f2, b2, n2, s2, r2⟩ := HAT2.out.before (fr_drew (Fr.refl [] wr))
          refine ⟨k + 1, by omega, by go_num, f2, b2, n2, fun y hy => ?_, fr_then HR1.out r2 HS1.out⟩
          rcases s2 y hy with h | h
          · exact HS1.out y h
          · exact .inr (Nat.le_trans HR1.out.size h)
        case measure => simp [intOf]; omega
    · have hk60 : k = 60 := by omega
      subst hk60
      clear a1 s1 r1 n1 hH1
      go_wp2_with fail
      go_ret
      refine ⟨rfl, ?_⟩
      obtain ⟨f2, a2, n2, s2, r2⟩ := HATO.out.before HF0.out
      exact ⟨f2, comN_all a2, n2, s2, r2⟩

end Go.Proofs.YthlhbjnkohinmaaGreat

/- The program's versions in memory: how many are kept, how many cells a session wrote, whether there is room. -/
namespace Go.Proofs.YthlhbjnkohinmaaGreat
open Go.RowKit

theorem kept_cell {w : World} {b o : Nat} {X : PEng} {kv : Nat → Value} (h : StoreAt w b o X kv) (hR : HRows w X kv) {c : Nat} (hc : c < 60) : ∃ a cp, w.cell? ⟨b, o + 1 + c * 2 + 1, none⟩ = some (.slice a (X.hist c).length cp) := by
  have h1 := hR c hc
  obtain ⟨a, m, cp, e⟩ := own_slice h1
  rw [e] at h1
  have em := own_len h1
  subst em
  exact ⟨a, cp, by rw [← e]; exact h.kept c hc⟩

set_option maxRecDepth 20000 in
set_option maxHeartbeats 1000000 in
theorem kept_any (b o : Nat) (X : PEng) (kv : Nat → Value) (w : World) (h : StoreAt w b o X kv) (hR : HRows w X kv) (hm : keptN X 60 ≤ 9223372036854775807) :
    Calls Tryz.prog 69 #[.pointer (some ⟨b, o, none⟩)] w fun e w' => e = .returned (.int .i64 (keptN X 60 : Nat)) ∧ w' = w := by
  have HK : Hid (∀ c, c < 60 → ∃ a cp, w.cell? ⟨b, o + 1 + c * 2 + 1, none⟩ = some (.slice a (X.hist c).length cp)) := hid (fun c hc => kept_cell h hR hc)
  have HM : Hid (∀ k, k ≤ 60 → keptN X k ≤ 9223372036854775807) := hid (fun k hk => Nat.le_trans (keptN_mono X hk) hm)
  clear h hR hm
  go_enter Tryz.func69, Tryz.ntmps69
  go_wp2_with fail
  go_loop [3, 4] (fun t i => ∃ k : Nat, k ≤ 60 ∧ i = .int .i64 k ∧ t = .int .i64 (keptN X k : Nat)) (fun _ i => 60 - (intOf i).toNat)
  case atStart => exact ⟨0, by omega, rfl, rfl⟩
  case round =>
    obtain ⟨k, hk, rfl, rfl⟩ := hrel
    by_cases hlt : k < 60
    · obtain ⟨a, cp, d0⟩ := HK.out k hlt
      have hle := HM.out (k + 1) (by omega)
      have HSU : Hid (keptN X (k + 1) = keptN X k + (X.hist k).length) := hid rfl
      rw [HSU.out] at hle
      obtain ⟨m, hm⟩ : ∃ m, m = keptN X k := ⟨_, rfl⟩
      obtain ⟨l, hl⟩ : ∃ l, l = (X.hist k).length := ⟨_, rfl⟩
      rw [← hm, ← hl] at hle HSU
      rw [← hl] at d0
      rw [← hm]
      clear hm hl
      go_wp2
      go_round
      case rel => exact ⟨k + 1, by omega, by go_num, by rw [HSU.out]; go_num⟩
      case measure => simp [intOf]; omega
    · have e : k = 60 := by omega
      subst e
      go_wp2
      go_ret
      exact ⟨rfl, rfl⟩

set_option maxRecDepth 20000 in
set_option maxHeartbeats 1000000 in
theorem swritten_any (b o : Nat) (S : PSes) (w : World) (h : SesAt w b o S) :
    Calls Tryz.prog 55 #[.pointer (some ⟨b, o, none⟩)] w fun e w' => e = .returned (.int .i64 (writN S 60 : Nat)) ∧ w' = w := by
  have HM := hid h.made
  clear h
  go_enter Tryz.func55, Tryz.ntmps55
  go_wp2_with fail
  go_loop [3, 4] (fun t i => ∃ k : Nat, k ≤ 60 ∧ i = .int .i64 k ∧ t = .int .i64 (writN S k : Nat)) (fun _ i => 60 - (intOf i).toNat)
  case atStart => exact ⟨0, by omega, rfl, rfl⟩
  case round =>
    obtain ⟨k, hk, rfl, rfl⟩ := hrel
    have hle := writN_le S k
    by_cases hlt : k < 60
    · have d0 := HM.out k hlt
      have HSU : Hid (writN S (k + 1) = writN S k + (if wMade (S.wr k) then 1 else 0)) := hid rfl
      obtain ⟨m, hm⟩ : ∃ m, m = writN S k := ⟨_, rfl⟩
      rw [← hm] at hle HSU
      rw [← hm]
      clear hm
      cases hw : wMade (S.wr k) with
      | true =>
        rw [hw] at d0 HSU
        clear hw
        go_wp2
        go_round
        case rel => exact ⟨k + 1, by omega, by go_num, by rw [HSU.out]; go_num⟩
        case measure => simp [intOf]; omega
      | false =>
        rw [hw] at d0 HSU
        clear hw
        go_wp2
        go_round
        case rel => exact ⟨k + 1, by omega, by go_num, by rw [HSU.out]; rfl⟩
        case measure => simp [intOf]; omega
    · have e : k = 60 := by omega
      subst e
      go_wp2
      go_ret
      exact ⟨rfl, rfl⟩

set_option maxRecDepth 20000 in
set_option maxHeartbeats 1000000 in
/-- There is room without a sweep. -/
theorem hasroom_yes (x : Nat) (X : PEng) (kv : Nat → Value) (m : Nat) (w : World) (h : PAt w x X kv) (hR : HRows w X kv) (hr : ((keptN X 60 + m : Nat) : Int) ≤ X.room) (h9 : X.room ≤ 999) :
    Calls Tryz.prog 56 #[.pointer (some ⟨x, 0, none⟩), .int .i64 m] w fun e w' => e = .returned (.bool true) ∧ w' = w := by
  have HK := hid (kept_any x 1955 X kv w h.store hR (by omega))
  have c1 := h.room
  obtain ⟨rm, hrm⟩ : ∃ rm, rm = X.room := ⟨_, rfl⟩
  obtain ⟨kn, hkn⟩ : ∃ kn, kn = keptN X 60 := ⟨_, rfl⟩
  rw [← hrm] at c1 hr h9
  rw [← hkn] at HK hr
  clear hrm hkn h hR
  go_enter Tryz.func56, Tryz.ntmps56
  go_wp2_with fail
  go_at_call 69
  refine HK.out.mono ?_
  rintro e w' ⟨rfl, rfl⟩
  go_wp2
  go_ret
  exact ⟨rfl, rfl⟩

end Go.Proofs.YthlhbjnkohinmaaGreat

/- The program's engine in memory: Commit. -/
namespace Go.Proofs.YthlhbjnkohinmaaGreat
open Go.RowKit

theorem PNext.keep {x : Nat} {X X' : PEng} {kv : Nat → Value} {w w' : World} {f : List Nat} (h : PEngK kv x X w f) (hn : f.Nodup) (hh : X'.hist = X.hist) (hp : PNext x X' kv w w') : PEngK kv x X' w' f ∧ Fr f w w' := by
  obtain ⟨h1, f2, h2, rfl⟩ := h
  rw [List.nodup_cons] at hn
  refine ⟨⟨hp.1, f2, ?_, rfl⟩, hp.2.mono (fun k hk => .inl (by simp at hk; simp [hk]))⟩
  rw [hh]
  exact EachA.framed HistA.framed _ _ h2 hp.2 (fun k hk hs => by simp at hs; exact hn.1 (hs ▸ hk))
theorem info_wrs : (Tryz.prog.info? 77).map (·.size) = some 240 := by kernel_rfl

/-- A place is emptied. -/
theorem pzero {x k : Nat} (hk : k < 8) {X : PEng} {w : World} {f : List Nat} (h : PEngA x X w f) (hn : f.Nodup) :
    (storeCells ⟨x, 3 + k * 244, none⟩ Tryz.zeroCells82.toList 0).run Tryz.prog w = .ok () (w.setCells x (3 + k * 244) Tryz.zeroCells82.toList) ∧ ATo (PEngA x (X.setSes k .zero)) f w (w.setCells x (3 + k * 244) Tryz.zeroCells82.toList) := by
  obtain ⟨kv, hk0⟩ := h
  have hP := hk0.1
  have hlay := hP.lay hk .zero ok_zero
  rw [← zero_ses] at hlay
  exact ⟨run_storeCells_mid (P := Tryz.prog) w x (3 + k * 244) Tryz.zeroCells82.toList (by rw [zero_ses, sesCells_len]; exact hP.there hk) (by rw [zero_ses]; exact sesCells_one _), PNext.to (X' := X.setSes k .zero) hk0 hn rfl hlay⟩

set_option maxRecDepth 20000 in
set_option maxHeartbeats 2000000 in
theorem pcommit_any (x : Nat) (X : PEng) (f : List Nat) (n : Int) (w : World) (h : PEngA x X w f) (hn : f.Nodup) (hlat : 0 ≤ X.latest ∧ X.latest < 9223372036854775807) (hl : ∀ c, c < 60 → ((X.hist c).length + 1) * 24 ≤ 140737488355328) (hr : ∀ k, findP X n = some k → ((keptN X 60 + writN (X.ses k) 60 : Nat) : Int) ≤ X.room) (hm : X.room ≤ 999) :
    Calls Tryz.prog 29 #[.pointer (some ⟨x, 0, none⟩), .int .i64 n] w fun e w' => e = .returned (.tuple #[.int .i64 (pcommitF X n).1.1, .int .i64 (pcommitF X n).1.2]) ∧ ATo (PEngA x (pcommitF X n).2) f w w' := by
  have HPA := hid h
  obtain ⟨kv, hk0⟩ := h
  have HF := hid (findp_any x X n w hk0.1.ses)
  unfold pcommitF
  cases hf : findP X n with
  | none =>
    rw [hf] at HF
    clear hf hk0 hr
    go_enter Tryz.func29, Tryz.ntmps29
    go_wp2_with fail
    go_at_call 41
    refine HF.out.mono ?_
    rintro e w' ⟨rfl, rfl⟩
    simp only [placeV]
    go_wp2
    go_ret2
    exact ⟨rfl, ATo.refl HPA.out hn (Fr.refl _ _)⟩
  | some k =>
    rw [hf] at HF
    have hk : k < 8 := by
      unfold findP at hf
      split at hf
      · cases hf
      · exact (numberedP_some hf).1
    have hrk := hr k hf
    clear hr hf
    simp only []
    have hP := hk0.1
    have hS0 := hP.ses k hk
    obtain ⟨S, hS⟩ : ∃ S, S = X.ses k := ⟨_, rfl⟩
    rw [← hS] at hrk hS0 ⊢
    obtain ⟨RES, hRES⟩ : ∃ RES : (Int × Int) × PEng, RES = (if hasW S then (if clash X S then ((0, 10), X.setSes k .zero) else ((X.latest + 1, 0), (X.setSes k .zero).commit S)) else ((0, 0), X.setSes k .zero)) := ⟨_, rfl⟩
    rw [← hRES]
    have HRES := hid hRES
    have HHW := hid (hasw_any x (3 + k * 244) S w hS0)
    have HWN := hid (fun W (hW : Fr [] w W) => swritten_any x (3 + k * 244) S W ((hP.fr hW (by simp)).ses k hk |> fun h => by rw [← hS] at h; exact h))
    have HHR := hid (fun W (hW : Fr [] w W) => hasroom_yes x X kv (writN S 60) W (hP.fr hW (by simp)) (PEngK.framed kv x X hk0 hW (by simp)).rows hrk hm)
    have HCON : Hid (∀ W, Fr [] w W → Calls Tryz.prog 54 #[.pointer (some ⟨x, 1955, none⟩), .agg (wrsCells S.wr S.tm).toArray, .int .i64 S.snap] W fun e w'' => e = .returned (.bool (clash X S)) ∧ W.grownBy w'' none) := hid (fun W hW => conflicts_any x 1955 X kv S W (hP.fr hW (by simp)).store)
    have HCOM : Hid (∀ W, Fr [] w W → Calls Tryz.prog 57 #[.pointer (some ⟨x, 1955, none⟩), .agg (wrsCells S.wr S.tm).toArray] W fun e w'' => e = .returned (.int .i64 (X.latest + 1)) ∧ ATo (PEngA x (X.commit S)) f W w'') := hid (fun W hW => scommit_any x X S f W (PEngA.framed _ _ HPA.out hW (by simp)) hn hlat hl)
    have HZ : Hid (∀ W, Fr [] w W → (storeCells ⟨x, 3 + k * 244, none⟩ Tryz.zeroCells82.toList 0).run Tryz.prog W = .ok () (W.setCells x (3 + k * 244) Tryz.zeroCells82.toList) ∧ ATo (PEngA x (X.setSes k .zero)) f w (W.setCells x (3 + k * 244) Tryz.zeroCells82.toList)) := hid (fun W hW => by
      obtain ⟨a, b⟩ := pzero hk (PEngA.framed _ _ HPA.out hW (by simp)) hn
      exact ⟨a, b.before hW⟩)
    have HZ2 : Hid (∀ W W2, Fr [] w W → ATo (PEngA x (X.commit S)) f W W2 → (storeCells ⟨x, 3 + k * 244, none⟩ Tryz.zeroCells82.toList 0).run Tryz.prog W2 = .ok () (W2.setCells x (3 + k * 244) Tryz.zeroCells82.toList) ∧ ATo (PEngA x ((X.setSes k .zero).commit S)) f w (W2.setCells x (3 + k * 244) Tryz.zeroCells82.toList)) := hid (fun W W2 hW hT => by
      refine ⟨?_, (hT.then (fun f' a n => (pzero hk a n).2)).before hW⟩
      obtain ⟨f', a, n', _, _⟩ := hT
      exact (pzero hk a n').1)
    have HSE : Hid (∀ W W2, ATo (PEngA x (X.commit S)) f W W2 → W2.rangeAt x (3 + k * 244 + 3) (wrsCells S.wr S.tm)) := hid (fun W W2 hT => by
      obtain ⟨f', ⟨kv', a⟩, _⟩ := hT
      have h1 := (a.1.ses k hk).writes
      have h2 : (X.commit S).ses k = S := hS.symm
      rw [h2] at h1
      exact h1)
    have hsn0 := hS0.snap
    have hrw0 := hS0.writes
    have hxl := hP.lt
    clear hRES hk0 hP hS hS0 hrk hlat hl hm
    go_enter Tryz.func29, Tryz.ntmps29
    go_wp2_with fail
    go_at_call 41
    refine HF.out.mono ?_
    rintro e w' ⟨rfl, rfl⟩
    simp only [placeV]
    go_wp2_with fail
    go_at_call 53
    refine HHW.out.mono ?_
    rintro e w3 ⟨rfl, rfl⟩
    cases hhw : hasW S with
    | false =>
      have HRE : Hid (RES = ((0, 0), X.setSes k .zero)) := hid (by rw [HRES.out, hhw]; rfl)
      have hst := (HZ.out _ (Fr.refl _ _)).1
      clear hhw
      go_wp2_with fail
      go_ret2
      rw [HRE.out]
      exact ⟨rfl, (HZ.out _ (Fr.refl _ _)).2⟩
    | true =>
      have hu := Tryz.underlying77
      have hlen2 := wrsCells_len S.wr S.tm
      have hinf : (Tryz.prog.info? 77).map (·.size) = some (wrsCells S.wr S.tm).length := info_wrs.trans (by rw [hlen2])
      have hR2 : RES = if clash X S then ((0, 10), X.setSes k .zero) else ((X.latest + 1, 0), (X.setSes k .zero).commit S) := by rw [HRES.out, hhw]; rfl
      have HR2 := hid hR2
      obtain ⟨sn, hsn'⟩ : ∃ sn, sn = S.snap := ⟨_, rfl⟩
      rw [← hsn'] at hsn0 HCON
      obtain ⟨wl, hwl⟩ : ∃ wl, wl = wrsCells S.wr S.tm := ⟨_, rfl⟩
      rw [← hwl] at hrw0 HCON HCOM HSE hinf hlen2
      obtain ⟨lt1, hlt1⟩ : ∃ lt1, lt1 = X.latest + 1 := ⟨_, rfl⟩
      rw [← hlt1] at HCOM HR2
      obtain ⟨cl, hcl⟩ : ∃ cl, cl = clash X S := ⟨_, rfl⟩
      rw [← hcl] at HCON HR2
      obtain ⟨wn, hwn⟩ : ∃ wn, wn = writN S 60 := ⟨_, rfl⟩
      rw [← hwn] at HWN HHR
      clear hhw hsn' hwl hlt1 hR2 hcl hwn
      go_wp2_with fail
      go_region_held3 (fun W => W.rangeAt x (3 + k * 244 + 3) wl ∧ W.cell? ⟨x, 3 + k * 244 + 1, none⟩ = some (.int .i64 sn)) (first | (exact ⟨t1, t2⟩) | (simp only [World.rangeAt_drew, World.cell?_drew]; exact ⟨hrw0, hsn0⟩) | go_keep) (first
        | (go_at_call 54
           refine (HCON.out _ (fr_drew (Fr.refl _ _))).mono ?_
           rintro e w4 ⟨rfl, hg4⟩
           have HG4 := hid (fr_none hg4)
           have t1 : w4.rangeAt x (3 + k * 244 + 3) wl := fun j v hv => grown_cell hg4 (hrw0 j v hv)
           have t2 := grown_cell hg4 hsn0
           clear hg4))
      cases cl with
      | true =>
        have hst := (HZ.out _ ((fr_drew (Fr.refl _ _)).trans HG4.out)).1
        go_wp2_with fail
        go_ret2
        rw [show RES = ((0, 10), X.setSes k .zero) from HR2.out]
        exact ⟨rfl, (HZ.out _ ((fr_drew (Fr.refl _ _)).trans HG4.out)).2⟩
      | false =>
        have HW4 := hid ((fr_drew (Fr.refl [] w3)).trans HG4.out)
        go_wp2_with fail
        go_at_call 55
        refine (HWN.out _ HW4.out).mono ?_
        rintro e w4' ⟨rfl, rfl⟩
        go_wp2_with fail
        go_at_call 56
        refine (HHR.out _ HW4.out).mono ?_
        rintro e w4'' ⟨rfl, rfl⟩
        go_wp2_with fail
        go_region_held3 (fun W => W.rangeAt x (3 + k * 244 + 3) wl) (first | (exact t3) | (simp only [World.rangeAt_drew]; exact t1) | go_keep) (first
          | (go_at_call 57
             refine (HCOM.out _ (fr_drew HW4.out)).mono ?_
             rintro e w5 ⟨rfl, ht5⟩
             have HT5 := hid ht5
             have t3 := HSE.out _ _ ht5
             clear ht5))
        have hst := (HZ2.out _ _ (fr_drew HW4.out) HT5.out).1
        go_wp2_with fail
        go_ret2
        rw [show RES = ((lt1, 0), (X.setSes k .zero).commit S) from HR2.out]
        exact ⟨rfl, (HZ2.out _ _ (fr_drew HW4.out) HT5.out).2⟩

end Go.Proofs.YthlhbjnkohinmaaGreat
