/- What lies in memory, with the blocks that it takes: so that what is written elsewhere leaves it zs it is. -/
import Derived.Test.YthlhbjnkohinmaaRd
import Derived.OwnWalk
import Derived.OneCell
namespace Go.Proofs.Ythlhbjnkohinmaa
open Go.RowKit

/-- w' is w but for the blocks of S, and new ones. -/
structure Fr (S : List Nat) (w w' : World) : Prop where
  os : w'.os = w.os
  tape : w'.tape = w.tape
  output : w'.output = w.output
  size : w.heap.size ≤ w'.heap.size
  block : ∀ k, k < w.heap.size → k ∉ S → w'.heap[k]? = w.heap[k]?
theorem Fr.refl (S : List Nat) (w : World) : Fr S w w := ⟨rfl, rfl, rfl, Nat.le_refl _, fun _ _ _ => rfl⟩
theorem Fr.trans {S : List Nat} {a b c : World} (h : Fr S a b) (k : Fr S b c) : Fr S a c :=
  ⟨k.os.trans h.os, k.tape.trans h.tape, k.output.trans h.output, Nat.le_trans h.size k.size, fun i hi hs => (k.block i (Nat.lt_of_lt_of_le hi h.size) hs).trans (h.block i hi hs)⟩
theorem Fr.mono {S S' : List Nat} {a b : World} (h : Fr S a b) (hs : ∀ g, g ∈ S → g ∈ S' ∨ a.heap.size ≤ g) : Fr S' a b :=
  ⟨h.os, h.tape, h.output, h.size, fun k hk hk' => h.block k hk (fun e => by rcases hs k e with h | h; exact hk' h; omega)⟩
theorem Fr.grown {w w' : World} {row : Option Nat} (h : w.grownBy w' row) : Fr row.toList w w' :=
  ⟨h.os, h.tape, h.output, h.size, fun k hk hk' => h.block k hk (fun e => hk' (by rw [← e]; simp))⟩
theorem Fr.drewN {S : List Nat} {w w' : World} (h : Fr S w w') (n : Nat) : Fr S w (w'.drewN n) := ⟨h.os, h.tape, h.output, h.size, h.block⟩
theorem Fr.alloc {S : List Nat} {w w' : World} (h : Fr S w w') (o : Obj) : Fr S w (w'.alloc o) :=
  h.trans ((Fr.grown (World.grownBy_alloc w' o none)).mono (fun g hg => by cases hg))
theorem Fr.set {S : List Nat} {w w' : World} (h : Fr S w w') {a : Addr} (ha : a.block ∈ S ∨ w.heap.size ≤ a.block) (u : Value) : Fr S w (w'.setCell a u) := by
  have hb := Below.setCell (Below.refl 0 w') (p := a) (Nat.zero_le _) u
  exact ⟨hb.os.trans h.os, hb.tape.trans h.tape, hb.output.trans h.output, Nat.le_trans h.size hb.size, fun i hi hr => by
    rw [Below.heap_setCell w' a u i (by rcases ha with e | e; · intro c; subst c; exact hr e
                                        · omega)]
    exact h.block i hi hr⟩
theorem Fr.below {S : List Nat} {w w' : World} {B : Nat} (h : Fr S w w') (hB : B ≤ w.heap.size) (hS : ∀ g ∈ S, B ≤ g) : Below B w w' :=
  ⟨h.os, h.tape, h.output, h.size, fun k hk => h.block k (by omega) (fun e => by have := hS k e; omega)⟩

/-- A thing in memory: what it says of a world, and of the blocks that it takes. -/
abbrev Asn := World → List Nat → Prop
/-- It stays where its blocks stay. -/
def Framed (P : Asn) : Prop := ∀ {S : List Nat} {w w' : World} {f : List Nat}, P w f → Fr S w w' → (∀ g ∈ f, g ∉ S) → P w' f
def Within (P : Asn) : Prop := ∀ {w : World} {f : List Nat}, P w f → ∀ g ∈ f, g < w.heap.size

/-- A block. -/
def BlockA (g : Nat) (cs : Array Value) (t : TypeId) : Asn := fun w f => w.heap[g]? = some (.cells cs t (0, 0)) ∧ f = [g]
theorem BlockA.framed (g : Nat) (cs : Array Value) (t : TypeId) : Framed (BlockA g cs t) := by
  rintro S w w' f ⟨h, rfl⟩ hf hs
  exact ⟨(hf.block g (lt_of_block h) (hs g (by simp))).trans h, rfl⟩
theorem BlockA.within (g : Nat) (cs : Array Value) (t : TypeId) : Within (BlockA g cs t) := by
  rintro w f ⟨h, rfl⟩ k hk
  rw [List.mem_singleton.mp hk]; exact lt_of_block h

/-- A row that a slice owns. -/
def RowA (e : TypeId) (size : Nat) (v : Value) (n : Nat) (xs : List Value) : Asn := fun w f => w.ownsRow 0 e size v n xs ∧ f = v.ownBlock.toList
theorem RowA.framed (e : TypeId) (size : Nat) (v : Value) (n : Nat) (xs : List Value) : Framed (RowA e size v n xs) := by
  rintro S w w' f ⟨h, rfl⟩ hf hs
  refine ⟨?_, rfl⟩
  obtain ⟨h1, h2⟩ := h
  refine ⟨h1, ?_⟩
  rcases h2 with h2 | ⟨g, cap, cur, rfl, hb, hh, h3⟩
  · exact .inl h2
  · exact .inr ⟨g, cap, cur, rfl, hb, (hf.block g (lt_of_block hh) (hs g (by simp [Value.ownBlock]))).trans hh, h3⟩
theorem RowA.within (e : TypeId) (size : Nat) (v : Value) (n : Nat) (xs : List Value) : Within (RowA e size v n xs) := by
  rintro w f ⟨h, rfl⟩ k hk
  have : v.ownBlock = some k := by
    cases hv : v.ownBlock with
    | none => rw [hv] at hk; cases hk
    | some g => rw [hv] at hk; simp at hk; rw [hk]
  exact (h.lt k this).2
theorem RowA.nil (e : TypeId) (size : Nat) (w : World) : RowA e size (.slice none 0 0) 0 [] w [] := ⟨World.ownsRow_nil _ _ _ _, rfl⟩

/-- Two things side by side. -/
def Star (P Q : Asn) : Asn := fun w f => ∃ f1 f2, P w f1 ∧ Q w f2 ∧ f = f1 ++ f2
theorem Star.framed {P Q : Asn} (hP : Framed P) (hQ : Framed Q) : Framed (Star P Q) := by
  rintro S w w' f ⟨f1, f2, h1, h2, rfl⟩ hf hs
  exact ⟨f1, f2, hP h1 hf (fun g hg => hs g (by simp [hg])), hQ h2 hf (fun g hg => hs g (by simp [hg])), rfl⟩
theorem Star.within {P Q : Asn} (hP : Within P) (hQ : Within Q) : Within (Star P Q) := by
  rintro w f ⟨f1, f2, h1, h2, rfl⟩ g hg
  rcases List.mem_append.mp hg with hg | hg
  · exact hP h1 g hg
  · exact hQ h2 g hg

/-- One thing for each of a list of values. -/
def EachA {α : Type} (P : Value → α → Asn) : List Value → List α → Asn
  | [], [], _, f => f = []
  | v :: vs, a :: zs, w, f => ∃ f1 f2, P v a w f1 ∧ EachA P vs zs w f2 ∧ f = f1 ++ f2
  | _, _, _, _ => False
theorem EachA.framed {α : Type} {P : Value → α → Asn} (hP : ∀ v a, Framed (P v a)) : ∀ vs zs, Framed (EachA P vs zs)
  | [], [] => fun h _ _ => h
  | v :: vs, a :: zs => by
    rintro ⟨f1, f2, h1, h2, rfl⟩ hf hs
    exact ⟨f1, f2, hP v a h1 hf (fun g hg => hs g (by simp [hg])), EachA.framed hP vs zs h2 hf (fun g hg => hs g (by simp [hg])), rfl⟩
  | [], _ :: _ => fun h _ _ => h.elim
  | _ :: _, [] => fun h _ _ => h.elim
theorem EachA.within {α : Type} {P : Value → α → Asn} (hP : ∀ v a, Within (P v a)) : ∀ vs zs, Within (EachA P vs zs)
  | [], [] => fun h g hg => by rw [show _ = [] from h] at hg; cases hg
  | v :: vs, a :: zs => by
    rintro ⟨f1, f2, h1, h2, rfl⟩ g hg
    rcases List.mem_append.mp hg with hg | hg
    · exact hP v a h1 g hg
    · exact EachA.within hP vs zs h2 g hg
  | [], _ :: _ => fun h => h.elim
  | _ :: _, [] => fun h => h.elim
theorem EachA.len {α : Type} {P : Value → α → Asn} : ∀ {vs : List Value} {zs : List α} {w : World} {f : List Nat}, EachA P vs zs w f → vs.length = zs.length
  | [], [], _, _, _ => rfl
  | _ :: _, _ :: _, _, _, ⟨_, _, _, h, _⟩ => by simp [EachA.len h]
  | [], _ :: _, _, _, h => h.elim
  | _ :: _, [], _, _, h => h.elim
theorem EachA.snoc {α : Type} {P : Value → α → Asn} {v : Value} {a : α} {w : World} {f2 : List Nat} (hv : P v a w f2) : ∀ {vs : List Value} {zs : List α} {f : List Nat}, EachA P vs zs w f → EachA P (vs ++ [v]) (zs ++ [a]) w (f ++ f2)
  | [], [], f, h => by
    rw [show f = [] from h]
    exact ⟨f2, [], hv, rfl, by simp⟩
  | _ :: _, _ :: _, _, ⟨g1, g2, h1, h2, e⟩ => ⟨g1, g2 ++ f2, h1, EachA.snoc hv h2, by rw [e, List.append_assoc]⟩
  | [], _ :: _, _, h => h.elim
  | _ :: _, [], _, h => h.elim
theorem EachA.get {α : Type} {P : Value → α → Asn} : ∀ {vs : List Value} {zs : List α} {w : World} {f : List Nat}, EachA P vs zs w f → ∀ (k : Nat) (h1 : k < vs.length) (h2 : k < zs.length), ∃ g, P vs[k] zs[k] w g ∧ ∀ x ∈ g, x ∈ f
  | _ :: _, _ :: _, _, _, ⟨f1, f2, h1, _, e⟩, 0, _, _ => ⟨f1, h1, fun x hx => by rw [e]; simp [hx]⟩
  | _ :: _, _ :: _, _, _, ⟨f1, f2, _, h2, e⟩, k + 1, h3, h4 => by
    obtain ⟨g, hg, hx⟩ := EachA.get h2 k (by simpa using h3) (by simpa using h4)
    exact ⟨g, by simpa using hg, fun x h => by rw [e]; simp [hx x h]⟩

theorem fr_none {w w' : World} (h : w.grownBy w' none) : Fr [] w w' := Fr.grown h
/-- One of the things of a list, and the others: what is put in its place. -/
theorem EachA.focus {α : Type} {P : Value → α → Asn} (hP : ∀ v a, Framed (P v a)) : ∀ {vs : List Value} {zs : List α} {w : World} {f : List Nat}, EachA P vs zs w f → ∀ (k : Nat) (h1 : k < vs.length) (h2 : k < zs.length),
    ∃ fa g fb, P vs[k] zs[k] w g ∧ f = fa ++ (g ++ fb) ∧ ∀ (v' : Value) (a' : α) (w' : World) (g' S : List Nat), P v' a' w' g' → Fr S w w' → (∀ x ∈ fa, x ∉ S) → (∀ x ∈ fb, x ∉ S) → EachA P (vs.set k v') (zs.set k a') w' (fa ++ (g' ++ fb))
  | v :: vs, a :: zs, w, f, ⟨f1, f2, h1, h2, e⟩, 0, _, _ => by
    refine ⟨[], f1, f2, h1, by simpa using e, ?_⟩
    intro v' a' w' g' S hv hf _ hb
    exact ⟨g', f2, hv, EachA.framed hP _ _ h2 hf hb, rfl⟩
  | v :: vs, a :: zs, w, f, ⟨f1, f2, h1, h2, e⟩, k + 1, h3, h4 => by
    obtain ⟨fa, g, fb, hg, e2, hput⟩ := EachA.focus hP h2 k (by simpa using h3) (by simpa using h4)
    refine ⟨f1 ++ fa, g, fb, by simpa using hg, by rw [e, e2]; simp, ?_⟩
    intro v' a' w' g' S hv hf ha hb
    exact ⟨f1, fa ++ (g' ++ fb), hP _ _ h1 hf (fun x hx => ha x (by simp [hx])), hput v' a' w' g' S hv hf (fun x hx => ha x (by simp [hx])) hb, by simp⟩
theorem nodup_swap {fa g g' fb : List Nat} {N : Nat} (h : (fa ++ (g ++ fb)).Nodup) (hN : ∀ x ∈ fa ++ (g ++ fb), x < N) (hg : g'.Nodup) (hs : ∀ x ∈ g', x ∈ g ∨ N ≤ x) : (fa ++ (g' ++ fb)).Nodup := by
  rw [List.nodup_append] at h ⊢
  obtain ⟨h1, h2, h3⟩ := h
  rw [List.nodup_append] at h2 ⊢
  obtain ⟨h4, h5, h6⟩ := h2
  have hin : ∀ x y, x ∈ g' → y < N → (y ∈ g → False) → x ≠ y := by
    intro x y hx hy hyg e
    subst e
    rcases hs x hx with h | h
    · exact hyg h
    · omega
  refine ⟨h1, ⟨hg, h5, ?_⟩, ?_⟩
  · intro a ha b hb
    exact hin a b ha (hN b (by simp [hb])) (fun hbg => h6 b hbg b hb rfl)
  · intro a ha b hb
    rcases List.mem_append.mp hb with hb | hb
    · exact (hin b a hb (hN a (by simp [ha])) (fun hag => h3 a ha a (by simp [hag]) rfl)).symm
    · exact h3 a ha b (by simp [hb])

end Go.Proofs.Ythlhbjnkohinmaa
