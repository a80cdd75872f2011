/- The program's versions in memory: a commit. -/
import Derived.Test.YthlhbjnkohinmaaPs11
import Derived.Test.YthlhbjnkohinmaaPmem
namespace Go.Proofs.Ythlhbjnkohinmaa
open Go.RowKit

/-- One version more of a cell. -/
def PEng.addV (X : PEng) (c : Nat) (p : Int × Option Int) : PEng := { X with last := upd X.last c p.1, hist := upd X.hist c (X.hist c ++ [p]) }

theorem range_map_upd {α : Type} (f : Nat → α) (c : Nat) (v : α) (n : Nat) : (List.range n).map (upd f c v) = ((List.range n).map f).set c v := by
  apply List.ext_getElem
  · simp
  intro i h1 h2
  simp only [List.getElem_map, List.getElem_range, List.getElem_set]
  by_cases e : c = i
  · subst e; simp [upd]
  · rw [if_neg e, upd_ne _ _ _ (fun h => e h.symm)]

theorem PAt.of_block {w : World} {x : Nat} {X : PEng} {kv : Nat → Value} {cs : Array Value} (h : PAt w x X kv) (hb : w.heap[x]? = some (.cells cs 93 (0, 0))) {w' : World} {c : Nat} (hc : c < 60) (st : Int) (nv : Value)
    (hb' : w'.heap[x]? = some (.cells ((cs.setIfInBounds (1955 + 1 + c * 2) (.int .i64 st)).setIfInBounds (1955 + 1 + c * 2 + 1) nv) 93 (0, 0))) (p : Option Int) :
    PAt w' x (X.addV c (st, p)) (upd kv c nv) := by
  have e0 : ∀ i v, w.cell? ⟨x, i, none⟩ = some v → cs[i]? = some v := fun i v hv => by rw [cell_of_row _ _ _ _ _ _ hb] at hv; exact hv
  have far : ∀ i v, i ≠ 1955 + 1 + c * 2 → i ≠ 1955 + 1 + c * 2 + 1 → w.cell? ⟨x, i, none⟩ = some v → w'.cell? ⟨x, i, none⟩ = some v := fun i v h1 h2 hv => by
    rw [cell_of_row _ _ _ _ _ _ hb', Array.getElem?_setIfInBounds_ne (fun e => h2 e.symm), Array.getElem?_setIfInBounds_ne (fun e => h1 e.symm)]
    exact e0 i v hv
  have hsz : 1955 + 1 + c * 2 + 1 < cs.size := (Array.getElem?_eq_some_iff.mp (e0 _ _ (h.store.kept c hc))).1
  refine ⟨⟨_, hb'⟩, far _ _ (by omega) (by omega) h.rules, far _ _ (by omega) (by omega) h.room, far _ _ (by omega) (by omega) h.opened, fun k hk => ?_, ⟨far _ _ (by omega) (by omega) h.store.latest, fun d hd => ?_, fun d hd => ?_⟩⟩
  · have hs := h.ses k hk
    exact ⟨far _ _ (by omega) (by omega) hs.num, far _ _ (by omega) (by omega) hs.snap, far _ _ (by omega) (by omega) hs.cnt, fun d hd => far _ _ (by omega) (by omega) (hs.made d hd), fun d hd => far _ _ (by omega) (by omega) (hs.filled d hd), fun d hd => far _ _ (by omega) (by omega) (hs.val d hd), fun d hd => far _ _ (by omega) (by omega) (hs.tm d hd), far _ _ (by omega) (by omega) hs.mks, hs.ok⟩
  · show World.cell? _ _ = some (Value.int .i64 (upd X.last c st d))
    by_cases e : d = c
    · subst e
      rw [upd_same, cell_of_row _ _ _ _ _ _ hb', Array.getElem?_setIfInBounds_ne (by omega), Array.getElem?_setIfInBounds_self_of_lt (by omega)]
    · rw [upd_ne _ _ _ e]
      exact far _ _ (by omega) (by omega) (h.store.last d hd)
  · by_cases e : d = c
    · subst e
      rw [upd_same, cell_of_row _ _ _ _ _ _ hb', Array.getElem?_setIfInBounds_self_of_lt (by simp; omega)]
    · rw [upd_ne _ _ _ e]
      exact far _ _ (by omega) (by omega) (h.store.kept d hd)

/-- The engine behind one version more. -/
theorem padd_any (x : Nat) (X : PEng) (f : List Nat) (c : Nat) (st : Int) (q : Option Int) (w : World) (hc : c < 60) (h : PEngA x X w f) (hn : f.Nodup) (hl : ((X.hist c).length + 1) * 24 ≤ 140737488355328) :
    Calls Try.prog 72 #[.pointer (some ⟨x, 1955 + 1 + c * 2, none⟩), .agg #[.int .i64 st, .bool q.isSome, .int .i64 (q.getD 0)]] w fun e w' => e = .returned (.tuple #[]) ∧ ATo (PEngA x (X.addV c (st, q))) f w w' := by
  have hwi := PEngA.within _ _ h
  obtain ⟨kv, hP, f2, hE, rfl⟩ := h
  obtain ⟨cs, hb⟩ := hP.block
  have hkc := hP.store.kept c hc
  have hlen1 : c < ((List.range 60).map kv).length := by simpa using hc
  have hlen2 : c < ((List.range 60).map X.hist).length := by simpa using hc
  obtain ⟨fa, g, fb, hh, e2, hput⟩ := EachA.focus HistA.framed hE c hlen1 hlen2
  subst e2
  simp only [List.getElem_map, List.getElem_range] at hh
  obtain ⟨hrow, rfl⟩ := hh
  obtain ⟨a, m, cp, hkv⟩ := own_slice hrow
  rw [hkv] at hrow hkc hn hwi
  have em := own_len hrow
  subst em
  have hcs : cs[1955 + 1 + c * 2 + 1]? = some (.slice a (X.hist c).length cp) := by rw [cell_of_row _ _ _ _ _ _ hb] at hkc; exact hkc
  have hsz := (Array.getElem?_eq_some_iff.mp hcs).1
  refine (add_core x (1955 + 1 + c * 2) (X.hist c) st q a cp cs w hl hb hsz hcs hrow).mono ?_
  rintro e w' ⟨rfl, g3, c', w3, hg3, hown3, hb3, rfl, hfr⟩
  refine ⟨rfl, ?_⟩
  have hb4 : (w3.setCell ⟨x, 1955 + 1 + c * 2 + 1, none⟩ (.slice (some ⟨g3, 0, none⟩) ((X.hist c).length + 1) c')).heap[x]? = some (.cells ((cs.setIfInBounds (1955 + 1 + c * 2) (.int .i64 st)).setIfInBounds (1955 + 1 + c * 2 + 1) (.slice (some ⟨g3, 0, none⟩) ((X.hist c).length + 1) c')) 93 (0, 0)) := blk_setCell hb3 _ _
  have hP' := hP.of_block hb hc st _ hb4 q
  have hfr4 : Fr (x :: (Value.slice a (X.hist c).length cp).ownBlock.toList) w (w3.setCell ⟨x, 1955 + 1 + c * 2 + 1, none⟩ (.slice (some ⟨g3, 0, none⟩) ((X.hist c).length + 1) c')) := hfr.set (.inl (by simp)) _
  have hn2 : ((x :: fa) ++ ((Value.slice a (X.hist c).length cp).ownBlock.toList ++ fb)).Nodup := by simpa using hn
  have hdis : ∀ k, k ∈ fa ∨ k ∈ fb → k ∉ x :: (Value.slice a (X.hist c).length cp).ownBlock.toList := by
    intro k hk hk2
    rw [List.nodup_append] at hn2
    obtain ⟨n1, n2, d1⟩ := hn2
    rw [List.nodup_cons] at n1
    rw [List.nodup_append] at n2
    rcases List.mem_cons.mp hk2 with e | e
    · subst e
      rcases hk with h | h
      · exact n1.1 h
      · exact d1 k (by simp) k (by simp [h]) rfl
    · rcases hk with h | h
      · exact d1 k (by simp [h]) k (List.mem_append_left _ e) rfl
      · exact n2.2.2 k e k h rfl
  have hH : HistA (.slice (some ⟨g3, 0, none⟩) ((X.hist c).length + 1) c') (X.hist c ++ [(st, q)]) (w3.setCell ⟨x, 1955 + 1 + c * 2 + 1, none⟩ (.slice (some ⟨g3, 0, none⟩) ((X.hist c).length + 1) c')) [g3] := by
    refine ⟨?_, rfl⟩
    simp only [List.length_append, List.length_cons, List.length_nil]
    exact ownsRow_setCell_other hown3 (own_ne_ty hown3 hb3 (by decide)) _
  have hE' := hput _ _ _ _ _ hH hfr4 (fun k hk => hdis k (.inl hk)) (fun k hk => hdis k (.inr hk))
  have hg4 : g3 ∈ (Value.slice a (X.hist c).length cp).ownBlock.toList ∨ w.heap.size ≤ g3 := by
    rcases hg3 with h | h
    · exact .inl (by rw [h]; simp)
    · exact .inr h
  refine ⟨x :: (fa ++ ([g3] ++ fb)), ⟨_, hP', _, ?_, rfl⟩, ?_, ?_, ?_⟩
  · show EachA HistA ((List.range 60).map (upd kv c _)) ((List.range 60).map (upd X.hist c _)) _ _
    rw [range_map_upd, range_map_upd]
    exact hE'
  · have := nodup_swap (fa := x :: fa) (g := (Value.slice a (X.hist c).length cp).ownBlock.toList) (g' := [g3]) (fb := fb) (N := w.heap.size) hn2 (fun k hk => hwi k (by simpa using hk)) (by simp) (fun k hk => by simp only [List.mem_singleton] at hk; subst hk; exact hg4)
    simpa using this
  · intro k hk
    rw [hkv]
    have : k = g3 → k ∈ (Value.slice a (X.hist c).length cp).ownBlock.toList ∨ w.heap.size ≤ k := fun e => by subst e; exact hg4
    simp only [List.mem_cons, List.mem_append, List.not_mem_nil, or_false] at hk ⊢
    grind
  · rw [hkv]
    exact hfr4.mono (fun k hk => .inl (by simp only [List.mem_cons, List.mem_append] at hk ⊢; grind))

end Go.Proofs.Ythlhbjnkohinmaa
