/- The program's engine in memory, with the blocks that it takes. -/
import Derived.Test.YthlhbjnkohinmaaPs10
import Derived.Test.YthlhbjnkohinmaaOwn
namespace Go.Proofs.Ythlhbjnkohinmaa
open Go.RowKit

/-- The versions of a cell. -/
def HistA (v : Value) (h : List (Int × Option Int)) : Asn := RowA 108 3 v h.length (hvCells h)
theorem HistA.framed (v : Value) (h : List (Int × Option Int)) : Framed (HistA v h) := RowA.framed _ _ _ _ _
theorem HistA.within (v : Value) (h : List (Int × Option Int)) : Within (HistA v h) := RowA.within _ _ _ _ _
/-- The program's engine in block x, with the rows of its versions. -/
def PEngK (kv : Nat → Value) (x : Nat) (X : PEng) : Asn := fun w f => PAt w x X kv ∧ ∃ f2, EachA HistA ((List.range 60).map kv) ((List.range 60).map X.hist) w f2 ∧ f = x :: f2
def PEngA (x : Nat) (X : PEng) : Asn := fun w f => ∃ kv, PEngK kv x X w f
theorem cell_fr {w w' : World} {S : List Nat} (h : Fr S w w') {b : Nat} (hb : b < w.heap.size) (hs : b ∉ S) (i : Nat) : w'.cell? ⟨b, i, none⟩ = w.cell? ⟨b, i, none⟩ := by simp only [World.cell?, h.block b hb hs]
theorem PAt.fr {w w' : World} {x : Nat} {X : PEng} {kv : Nat → Value} {S : List Nat} (h : PAt w x X kv) (hf : Fr S w w') (hs : x ∉ S) : PAt w' x X kv := by
  have hl := h.lt
  obtain ⟨cs, hb⟩ := h.block
  have e := cell_fr hf hl hs
  exact ⟨⟨cs, (hf.block x hl hs).trans hb⟩, (e _).trans h.rules, (e _).trans h.room, (e _).trans h.opened, fun k hk => (h.ses k hk).fr hf hl hs, ⟨(e _).trans h.store.latest, fun c hc => (e _).trans (h.store.last c hc), fun c hc => (e _).trans (h.store.kept c hc)⟩⟩
theorem PEngK.framed (kv : Nat → Value) (x : Nat) (X : PEng) : Framed (PEngK kv x X) := by
  rintro S w w' f ⟨h1, f2, h2, rfl⟩ hf hs
  exact ⟨h1.fr hf (hs x (by simp)), f2, EachA.framed HistA.framed _ _ h2 hf (fun g hg => hs g (by simp [hg])), rfl⟩
theorem PEngA.framed (x : Nat) (X : PEng) : Framed (PEngA x X) := by
  rintro S w w' f ⟨kv, h⟩ hf hs
  exact ⟨kv, PEngK.framed kv x X h hf hs⟩
theorem PEngA.within (x : Nat) (X : PEng) : Within (PEngA x X) := by
  rintro w f ⟨kv, h1, f2, h2, rfl⟩ g hg
  rcases List.mem_cons.mp hg with rfl | hg
  · exact h1.lt
  · exact EachA.within HistA.within _ _ h2 g hg
theorem PEngK.rows {kv : Nat → Value} {x : Nat} {X : PEng} {w : World} {f : List Nat} (h : PEngK kv x X w f) : HRows w X kv := by
  obtain ⟨_, f2, h2, _⟩ := h
  intro c hc
  obtain ⟨g, h3, _⟩ := EachA.get h2 c (by simpa using hc) (by simpa using hc)
  simp only [List.getElem_map, List.getElem_range] at h3
  exact h3.1
/-- A thing's place behind a call: its blocks are those that it had, and new ones. -/
def ATo (P : Asn) (f : List Nat) (w w' : World) : Prop := ∃ f', P w' f' ∧ f'.Nodup ∧ (∀ x ∈ f', x ∈ f ∨ w.heap.size ≤ x) ∧ Fr f w w'
/-- The program's engine behind a call that changes its own block alone. -/
theorem PNext.to {x : Nat} {X X' : PEng} {kv : Nat → Value} {w w' : World} {f : List Nat} (h : PEngK kv x X w f) (hn : f.Nodup) (hh : X'.hist = X.hist) (hp : PNext x X' kv w w') : ATo (PEngA x X') f w w' := by
  obtain ⟨h1, f2, h2, rfl⟩ := h
  rw [List.nodup_cons] at hn
  refine ⟨x :: f2, ⟨kv, hp.1, f2, ?_, rfl⟩, by rw [List.nodup_cons]; exact hn, fun k hk => .inl hk, hp.2.mono (fun k hk => .inl (by simp at hk; simp [hk]))⟩
  rw [hh]
  exact EachA.framed HistA.framed _ _ h2 hp.2 (fun k hk hs => by simp at hs; exact hn.1 (hs ▸ hk))
theorem ATo.before {P : Asn} {f : List Nat} {w w0 w' : World} (h : ATo P f w0 w') (hf : Fr [] w w0) : ATo P f w w' := by
  obtain ⟨f', a, n, s, r⟩ := h
  refine ⟨f', a, n, fun k hk => ?_, (hf.mono (fun k hk => by cases hk)).trans r⟩
  rcases s k hk with h | h
  · exact .inl h
  · exact .inr (Nat.le_trans hf.size h)
theorem ATo.after {P : Asn} (hP : Framed P) {f : List Nat} {w w' w2 : World} (h : ATo P f w w') (hf : Fr [] w' w2) : ATo P f w w2 := by
  obtain ⟨f', a, n, s, r⟩ := h
  exact ⟨f', hP a hf (by simp), n, s, r.trans (hf.mono (fun k hk => by cases hk))⟩
theorem keepc {w0 w1 : World} {f : List Nat} (hf : Fr f w0 w1) {b i : Nat} {v : Value} (h : w0.cell? ⟨b, i, none⟩ = some v) (hn : b ∉ f) : w1.cell? ⟨b, i, none⟩ = some v := by
  rw [cell_fr hf (World.block_lt_of_cell? w0 _ h) hn]; exact h
theorem fr_alloc (w : World) (o : Obj) : Fr [] w (w.alloc o) := (Fr.refl [] w).alloc o
theorem fr_drew {w w' : World} (h : Fr [] w w') : Fr [] w w'.drew := h.drewN 1
theorem ATo.refl {x : Nat} {X : PEng} {f : List Nat} {w w' : World} (h : PEngA x X w f) (hn : f.Nodup) (hf : Fr [] w w') : ATo (PEngA x X) f w w' := ⟨f, PEngA.framed _ _ h hf (by simp), hn, fun _ hx => .inl hx, hf.mono (fun k hk => by cases hk)⟩
theorem cell_new {w : World} {cs : Array Value} {t : TypeId} {j : Nat} {v : Value} (h : cs[j]? = some v) : (w.alloc (.cells cs t)).cell? ⟨w.heap.size, j, none⟩ = some v := by rw [cell_of_row _ _ _ _ _ _ (heap_alloc_new w _)]; exact h
theorem keep0 {w w0 : World} (hf : Fr [] w w0) {b i : Nat} {v : Value} (h : w.cell? ⟨b, i, none⟩ = some v) : w0.cell? ⟨b, i, none⟩ = some v := keepc hf h (by simp)

end Go.Proofs.Ythlhbjnkohinmaa
