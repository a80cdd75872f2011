import Derived.Test.YthlhbjnkohinmaaGreatRd
import Derived.OwnWalk
import Derived.OneCell
import Derived.Laws.BytesArg
import Derived.Test.YthlhbjnkohinmaaGreatLaw1
/- What lies in memory, with the blocks that it takes: so that what is written elsewhere leaves it zs it is. -/
namespace Go.Proofs.YthlhbjnkohinmaaGreat
open Go.RowKit

/-- w' is w but for the blocks of S, and new ones. -/
structure Fr (S : List Nat) (w w' : World) : Prop where
  os : w'.os = w.os
  tape : w'.tape = w.tape
  output : w'.output = w.output
  size : w.heap.size ≤ w'.heap.size
  block : ∀ k, k < w.heap.size → k ∉ S → w'.heap[k]? = w.heap[k]?
theorem Fr.refl (S : List Nat) (w : World) : Fr S w w := ⟨rfl, rfl, rfl, Nat.le_refl _, fun _ _ _ => rfl⟩
theorem Fr.trans {S : List Nat} {a b c : World} (h : Fr S a b) (k : Fr S b c) : Fr S a c :=
  ⟨k.os.trans h.os, k.tape.trans h.tape, k.output.trans h.output, Nat.le_trans h.size k.size, fun i hi hs => (k.block i (Nat.lt_of_lt_of_le hi h.size) hs).trans (h.block i hi hs)⟩
theorem Fr.mono {S S' : List Nat} {a b : World} (h : Fr S a b) (hs : ∀ g, g ∈ S → g ∈ S' ∨ a.heap.size ≤ g) : Fr S' a b :=
  ⟨h.os, h.tape, h.output, h.size, fun k hk hk' => h.block k hk (fun e => by rcases hs k e with h | h; exact hk' h; omega)⟩
theorem Fr.grown {w w' : World} {row : Option Nat} (h : w.grownBy w' row) : Fr row.toList w w' :=
  ⟨h.os, h.tape, h.output, h.size, fun k hk hk' => h.block k hk (fun e => hk' (by rw [← e]; simp))⟩
theorem Fr.drewN {S : List Nat} {w w' : World} (h : Fr S w w') (n : Nat) : Fr S w (w'.drewN n) := ⟨h.os, h.tape, h.output, h.size, h.block⟩
theorem Fr.alloc {S : List Nat} {w w' : World} (h : Fr S w w') (o : Obj) : Fr S w (w'.alloc o) :=
  h.trans ((Fr.grown (World.grownBy_alloc w' o none)).mono (fun g hg => by cases hg))
theorem Fr.set {S : List Nat} {w w' : World} (h : Fr S w w') {a : Addr} (ha : a.block ∈ S ∨ w.heap.size ≤ a.block) (u : Value) : Fr S w (w'.setCell a u) := by
  have hb := Below.setCell (Below.refl 0 w') (p := a) (Nat.zero_le _) u
  exact ⟨hb.os.trans h.os, hb.tape.trans h.tape, hb.output.trans h.output, Nat.le_trans h.size hb.size, fun i hi hr => by
    rw [Below.heap_setCell w' a u i (by rcases ha with e | e; · intro c; subst c; exact hr e
                                        · omega)]
    exact h.block i hi hr⟩
theorem Fr.below {S : List Nat} {w w' : World} {B : Nat} (h : Fr S w w') (hB : B ≤ w.heap.size) (hS : ∀ g ∈ S, B ≤ g) : Below B w w' :=
  ⟨h.os, h.tape, h.output, h.size, fun k hk => h.block k (by omega) (fun e => by have := hS k e; omega)⟩

/-- A thing in memory: what it says of a world, and of the blocks that it takes. -/
abbrev Asn := World → List Nat → Prop
/-- It stays where its blocks stay. -/
def Framed (P : Asn) : Prop := ∀ {S : List Nat} {w w' : World} {f : List Nat}, P w f → Fr S w w' → (∀ g ∈ f, g ∉ S) → P w' f
def Within (P : Asn) : Prop := ∀ {w : World} {f : List Nat}, P w f → ∀ g ∈ f, g < w.heap.size

/-- A block. -/
def BlockA (g : Nat) (cs : Array Value) (t : TypeId) : Asn := fun w f => w.heap[g]? = some (.cells cs t (0, 0)) ∧ f = [g]
theorem BlockA.framed (g : Nat) (cs : Array Value) (t : TypeId) : Framed (BlockA g cs t) := by
  rintro S w w' f ⟨h, rfl⟩ hf hs
  exact ⟨(hf.block g (lt_of_block h) (hs g (by simp))).trans h, rfl⟩
theorem BlockA.within (g : Nat) (cs : Array Value) (t : TypeId) : Within (BlockA g cs t) := by
  rintro w f ⟨h, rfl⟩ k hk
  rw [List.mem_singleton.mp hk]; exact lt_of_block h

/-- A row that a slice owns. -/
def RowA (e : TypeId) (size : Nat) (v : Value) (n : Nat) (xs : List Value) : Asn := fun w f => w.ownsRow 0 e size v n xs ∧ f = v.ownBlock.toList
theorem RowA.framed (e : TypeId) (size : Nat) (v : Value) (n : Nat) (xs : List Value) : Framed (RowA e size v n xs) := by
  rintro S w w' f ⟨h, rfl⟩ hf hs
  refine ⟨?_, rfl⟩
  obtain ⟨h1, h2⟩ := h
  refine ⟨h1, ?_⟩
  rcases h2 with h2 | ⟨g, cap, cur, rfl, hb, hh, h3⟩
  · exact .inl h2
  · exact .inr ⟨g, cap, cur, rfl, hb, (hf.block g (lt_of_block hh) (hs g (by simp [Value.ownBlock]))).trans hh, h3⟩
theorem RowA.within (e : TypeId) (size : Nat) (v : Value) (n : Nat) (xs : List Value) : Within (RowA e size v n xs) := by
  rintro w f ⟨h, rfl⟩ k hk
  have : v.ownBlock = some k := by
    cases hv : v.ownBlock with
    | none => rw [hv] at hk; cases hk
    | some g => rw [hv] at hk; simp at hk; rw [hk]
  exact (h.lt k this).2
theorem RowA.nil (e : TypeId) (size : Nat) (w : World) : RowA e size (.slice none 0 0) 0 [] w [] := ⟨World.ownsRow_nil _ _ _ _, rfl⟩

/-- Two things side by side. -/
def Star (P Q : Asn) : Asn := fun w f => ∃ f1 f2, P w f1 ∧ Q w f2 ∧ f = f1 ++ f2
theorem Star.framed {P Q : Asn} (hP : Framed P) (hQ : Framed Q) : Framed (Star P Q) := by
  rintro S w w' f ⟨f1, f2, h1, h2, rfl⟩ hf hs
  exact ⟨f1, f2, hP h1 hf (fun g hg => hs g (by simp [hg])), hQ h2 hf (fun g hg => hs g (by simp [hg])), rfl⟩
theorem Star.within {P Q : Asn} (hP : Within P) (hQ : Within Q) : Within (Star P Q) := by
  rintro w f ⟨f1, f2, h1, h2, rfl⟩ g hg
  rcases List.mem_append.mp hg with hg | hg
  · exact hP h1 g hg
  · exact hQ h2 g hg

/-- One thing for each of a list of values. -/
def EachA {α : Type} (P : Value → α → Asn) : List Value → List α → Asn
  | [], [], _, f => f = []
  | v :: vs, a :: zs, w, f => ∃ f1 f2, P v a w f1 ∧ EachA P vs zs w f2 ∧ f = f1 ++ f2
  | _, _, _, _ => False
theorem EachA.framed {α : Type} {P : Value → α → Asn} (hP : ∀ v a, Framed (P v a)) : ∀ vs zs, Framed (EachA P vs zs)
  | [], [] => fun h _ _ => h
  | v :: vs, a :: zs => by
    rintro ⟨f1, f2, h1, h2, rfl⟩ hf hs
    exact ⟨f1, f2, hP v a h1 hf (fun g hg => hs g (by simp [hg])), EachA.framed hP vs zs h2 hf (fun g hg => hs g (by simp [hg])), rfl⟩
  | [], _ :: _ => fun h _ _ => h.elim
  | _ :: _, [] => fun h _ _ => h.elim
theorem EachA.within {α : Type} {P : Value → α → Asn} (hP : ∀ v a, Within (P v a)) : ∀ vs zs, Within (EachA P vs zs)
  | [], [] => fun h g hg => by rw [show _ = [] from h] at hg; cases hg
  | v :: vs, a :: zs => by
    rintro ⟨f1, f2, h1, h2, rfl⟩ g hg
    rcases List.mem_append.mp hg with hg | hg
    · exact hP v a h1 g hg
    · exact EachA.within hP vs zs h2 g hg
  | [], _ :: _ => fun h => h.elim
  | _ :: _, [] => fun h => h.elim
theorem EachA.len {α : Type} {P : Value → α → Asn} : ∀ {vs : List Value} {zs : List α} {w : World} {f : List Nat}, EachA P vs zs w f → vs.length = zs.length
  | [], [], _, _, _ => rfl
  | _ :: _, _ :: _, _, _, ⟨_, _, _, h, _⟩ => by simp [EachA.len h]
  | [], _ :: _, _, _, h => h.elim
  | _ :: _, [], _, _, h => h.elim
theorem EachA.snoc {α : Type} {P : Value → α → Asn} {v : Value} {a : α} {w : World} {f2 : List Nat} (hv : P v a w f2) : ∀ {vs : List Value} {zs : List α} {f : List Nat}, EachA P vs zs w f → EachA P (vs ++ [v]) (zs ++ [a]) w (f ++ f2)
  | [], [], f, h => by
    rw [show f = [] from h]
    exact ⟨f2, [], hv, rfl, by simp⟩
  | _ :: _, _ :: _, _, ⟨g1, g2, h1, h2, e⟩ => ⟨g1, g2 ++ f2, h1, EachA.snoc hv h2, by rw [e, List.append_assoc]⟩
  | [], _ :: _, _, h => h.elim
  | _ :: _, [], _, h => h.elim
theorem EachA.get {α : Type} {P : Value → α → Asn} : ∀ {vs : List Value} {zs : List α} {w : World} {f : List Nat}, EachA P vs zs w f → ∀ (k : Nat) (h1 : k < vs.length) (h2 : k < zs.length), ∃ g, P vs[k] zs[k] w g ∧ ∀ x ∈ g, x ∈ f
  | _ :: _, _ :: _, _, _, ⟨f1, f2, h1, _, e⟩, 0, _, _ => ⟨f1, h1, fun x hx => by rw [e]; simp [hx]⟩
  | _ :: _, _ :: _, _, _, ⟨f1, f2, _, h2, e⟩, k + 1, h3, h4 => by
    obtain ⟨g, hg, hx⟩ := EachA.get h2 k (by simpa using h3) (by simpa using h4)
    exact ⟨g, by simpa using hg, fun x h => by rw [e]; simp [hx x h]⟩

theorem fr_none {w w' : World} (h : w.grownBy w' none) : Fr [] w w' := Fr.grown h
/-- One of the things of a list, and the others: what is put in its place. -/
theorem EachA.focus {α : Type} {P : Value → α → Asn} (hP : ∀ v a, Framed (P v a)) : ∀ {vs : List Value} {zs : List α} {w : World} {f : List Nat}, EachA P vs zs w f → ∀ (k : Nat) (h1 : k < vs.length) (h2 : k < zs.length),
    ∃ fa g fb, P vs[k] zs[k] w g ∧ f = fa ++ (g ++ fb) ∧ ∀ (v' : Value) (a' : α) (w' : World) (g' S : List Nat), P v' a' w' g' → Fr S w w' → (∀ x ∈ fa, x ∉ S) → (∀ x ∈ fb, x ∉ S) → EachA P (vs.set k v') (zs.set k a') w' (fa ++ (g' ++ fb))
  | v :: vs, a :: zs, w, f, ⟨f1, f2, h1, h2, e⟩, 0, _, _ => by
    refine ⟨[], f1, f2, h1, by simpa using e, ?_⟩
    intro v' a' w' g' S hv hf _ hb
    exact ⟨g', f2, hv, EachA.framed hP _ _ h2 hf hb, rfl⟩
  | v :: vs, a :: zs, w, f, ⟨f1, f2, h1, h2, e⟩, k + 1, h3, h4 => by
    obtain ⟨fa, g, fb, hg, e2, hput⟩ := EachA.focus hP h2 k (by simpa using h3) (by simpa using h4)
    refine ⟨f1 ++ fa, g, fb, by simpa using hg, by rw [e, e2]; simp, ?_⟩
    intro v' a' w' g' S hv hf ha hb
    exact ⟨f1, fa ++ (g' ++ fb), hP _ _ h1 hf (fun x hx => ha x (by simp [hx])), hput v' a' w' g' S hv hf (fun x hx => ha x (by simp [hx])) hb, by simp⟩
theorem nodup_swap {fa g g' fb : List Nat} {N : Nat} (h : (fa ++ (g ++ fb)).Nodup) (hN : ∀ x ∈ fa ++ (g ++ fb), x < N) (hg : g'.Nodup) (hs : ∀ x ∈ g', x ∈ g ∨ N ≤ x) : (fa ++ (g' ++ fb)).Nodup := by
  rw [List.nodup_append] at h ⊢
  obtain ⟨h1, h2, h3⟩ := h
  rw [List.nodup_append] at h2 ⊢
  obtain ⟨h4, h5, h6⟩ := h2
  have hin : ∀ x y, x ∈ g' → y < N → (y ∈ g → False) → x ≠ y := by
    intro x y hx hy hyg e
    subst e
    rcases hs x hx with h | h
    · exact hyg h
    · omega
  refine ⟨h1, ⟨hg, h5, ?_⟩, ?_⟩
  · intro a ha b hb
    exact hin a b ha (hN b (by simp [hb])) (fun hbg => h6 b hbg b hb rfl)
  · intro a ha b hb
    rcases List.mem_append.mp hb with hb | hb
    · exact (hin b a hb (hN a (by simp [ha])) (fun hag => h3 a ha a (by simp [hag]) rfl)).symm
    · exact h3 a ha b (by simp [hb])

end Go.Proofs.YthlhbjnkohinmaaGreat

/- The program's engine, as plain data, and what its calls do to it. -/
namespace Go.Proofs.YthlhbjnkohinmaaGreat
open Go.RowKit

/-- Is the text a cell? -/
def cellB (s : ByteArray) : Bool := s.size == 2 && clsB (bt s 0) && digB (bt s 1)
/-- Is the text a fact? -/
def factB (s : ByteArray) : Bool := s.size == 3 && clsB (bt s 0) && digB (bt s 1) && digB (bt s 2)
/-- Texts one behind the other. -/
def joined (l : List ByteArray) : ByteArray := l.foldl (· ++ ·) ByteArray.empty
theorem joined_snoc (l : List ByteArray) (x : ByteArray) : joined (l ++ [x]) = joined l ++ x := by simp [joined]

/-- What was written last to a cell: nothing, or what it has since. -/
abbrev PW := Option (Option Int)
/-- A session of the program's; mks: the block of its marks, once it has some. -/
structure PSes where
  num : Int
  snap : Int
  made : Int
  wr : Nat → PW
  tm : Nat → Int
  mks : Option Nat
/-- The rules of an engine: their value and the engine's room, their text, and where they stand in it. -/
abbrev Src := (Value × Int) × ByteArray × List (Nat × List Nat × List Nat)
/-- The program's engine. -/
structure PEng where
  src : Src
  opened : Int
  ses : Nat → PSes
  latest : Int
  last : Nat → Int
  hist : Nat → List (Int × Option Int)

def PEng.room (X : PEng) : Int := X.src.1.2
/-- How many versions the first cells keep. -/
def keptN (X : PEng) : Nat → Nat
  | 0 => 0
  | n + 1 => keptN X n + (X.hist n).length
/-- How many of the first cells a session wrote to. -/
def writN (S : PSes) : Nat → Nat
  | 0 => 0
  | n + 1 => writN S n + (if (S.wr n).isSome then 1 else 0)
theorem writN_le (S : PSes) : ∀ n, writN S n ≤ n
  | 0 => Nat.le_refl 0
  | n + 1 => by
    have := writN_le S n
    show writN S n + (if (S.wr n).isSome then 1 else 0) ≤ n + 1
    split <;> omega
theorem keptN_same {X Y : PEng} (h : Y.hist = X.hist) : ∀ n, keptN Y n = keptN X n
  | 0 => rfl
  | n + 1 => by unfold keptN; rw [keptN_same h n, h]
theorem keptN_mono (X : PEng) : ∀ {m n : Nat}, m ≤ n → keptN X m ≤ keptN X n
  | m, 0, h => by
    have : m = 0 := by omega
    subst this
    exact Nat.le_refl _
  | m, n + 1, h => by
    by_cases e : m = n + 1
    · subst e; exact Nat.le_refl _
    · have := keptN_mono X (m := m) (n := n) (by omega)
      show keptN X m ≤ keptN X n + (X.hist n).length
      omega
def PSes.zero : PSes := ⟨0, 0, 0, fun _ => none, fun _ => 0, none⟩
/-- A session that was just opened. -/
def PSes.new (n t : Int) : PSes := ⟨n, t, 0, fun _ => none, fun _ => 0, none⟩
def upd {α : Type} (f : Nat → α) (k : Nat) (v : α) : Nat → α := fun j => if j = k then v else f j
theorem upd_same {α : Type} (f : Nat → α) (k : Nat) (v : α) : upd f k v k = v := by simp [upd]
theorem upd_ne {α : Type} (f : Nat → α) (k : Nat) (v : α) {j : Nat} (h : j ≠ k) : upd f k v j = f j := by simp [upd, h]
def PEng.setSes (X : PEng) (k : Nat) (s : PSes) : PEng := { X with ses := upd X.ses k s }
def PSes.put (S : PSes) (c : Nat) (v : Option Int) : PSes := { S with made := S.made + 1, wr := upd S.wr c (some v), tm := upd S.tm c (S.snap + (S.made + 1)) }

def numberedP (X : PEng) (n : Int) : Option Nat := (List.range 8).find? fun k => (X.ses k).num == n
def findP (X : PEng) (n : Int) : Option Nat := if n < 1 then none else numberedP X n
theorem numberedP_some {X : PEng} {n : Int} {k : Nat} (h : numberedP X n = some k) : k < 8 ∧ (X.ses k).num = n := by
  unfold numberedP at h
  have h1 := List.mem_of_find?_eq_some h
  have h2 := List.find?_some h
  exact ⟨by simpa using h1, by simpa using h2⟩
theorem numberedP_none {X : PEng} {n : Int} (h : numberedP X n = none) : ∀ k, k < 8 → (X.ses k).num ≠ n := by
  unfold numberedP at h
  rw [List.find?_eq_none] at h
  intro k hk
  simpa using h k (by simpa using hk)

def popenF (X : PEng) : (Int × Int) × PEng := match numberedP X 0 with
  | none => ((0, 7), X)
  | some k => ((X.opened + 1, 0), { X with opened := X.opened + 1, ses := upd X.ses k (.new (X.opened + 1) X.latest) })
/-- The number of the cell that a text begins with. -/
def cellN (s : ByteArray) : Nat := ((bt s 0 - 97) * 10 + (bt s 1 - 48)).toNat
def pputF (X : PEng) (n : Int) (s : ByteArray) : Int × PEng := match findP X n with
  | none => (6, X)
  | some k => if factB s then (0, X.setSes k ((X.ses k).put (cellN s) (some (bt s 2 - 48)))) else (8, X)
def pclearF (X : PEng) (n : Int) (s : ByteArray) : Int × PEng := match findP X n with
  | none => (6, X)
  | some k => if cellB s then (0, X.setSes k ((X.ses k).put (cellN s) none)) else (8, X)
def histAt (h : List (Int × Option Int)) (t : Int) : Option Int := match h.reverse.find? (fun p => decide (p.1 ≤ t)) with
  | some p => p.2
  | none => none
/-- The version that a cell has at a stamp; its stamp is 0 if there is none. -/
def histV (h : List (Int × Option Int)) (t : Int) : Int × Option Int := match h.reverse.find? (fun p => decide (p.1 ≤ t)) with
  | some p => p
  | none => (0, none)
theorem histV_two (h : List (Int × Option Int)) (t : Int) : (histV h t).2 = histAt h t := by
  unfold histV histAt
  cases h.reverse.find? (fun p => decide (p.1 ≤ t)) <;> rfl
def seenP (X : PEng) (k c : Nat) : Option Int := match (X.ses k).wr c with
  | some v => v
  | none => histAt (X.hist c) (X.ses k).snap
def factP (c : Nat) (v : Int) : ByteArray := strOfNums [97 + (c : Int) / 10, 48 + (c : Int) % 10, 48 + v]
def viewP (X : PEng) (k : Nat) : ByteArray := joined ((List.range 60).filterMap fun c => (seenP X k c).map (factP c))
def pviewF (X : PEng) (n : Int) : ByteArray × Int := match findP X n with
  | none => (ByteArray.empty, 6)
  | some k => (viewP X k, 0)
def pabortF (X : PEng) (n : Int) : Int × PEng := match findP X n with
  | none => (6, X)
  | some k => (0, X.setSes k .zero)
def hasW (S : PSes) : Bool := (List.range 60).any fun c => (S.wr c).isSome
/-- How many writes were made fits which cells were written. -/
def PSes.ok (S : PSes) : Prop := 0 ≤ S.made ∧ decide (0 < S.made) = hasW S
def clash (X : PEng) (S : PSes) : Bool := (List.range 60).any fun c => (S.wr c).isSome && decide (X.last c > S.snap)
def PEng.commit (X : PEng) (S : PSes) : PEng := { X with
  latest := X.latest + 1
  last := fun c => if (S.wr c).isSome then X.latest + 1 else X.last c
  hist := fun c => match S.wr c with | some v => X.hist c ++ [(X.latest + 1, v)] | none => X.hist c }
def pcommitF (X : PEng) (n : Int) : (Int × Int) × PEng := match findP X n with
  | none => ((0, 6), X)
  | some k => if hasW (X.ses k) then (if clash X (X.ses k) then ((0, 10), X.setSes k .zero) else ((X.latest + 1, 0), (X.setSes k .zero).commit (X.ses k))) else ((0, 0), X.setSes k .zero)

end Go.Proofs.YthlhbjnkohinmaaGreat

/- The document's engine in memory, and what of it only reads: last, At, Find, sees, cell. -/
namespace Go.Proofs.YthlhbjnkohinmaaGreat
open Go.RowKit

/-- A write: the cell's text and the value. -/
abbrev Wr := ByteArray × Int
/-- A session of the document's. -/
structure Ses where
  num : Int
  snap : Int
  wr : List Wr
  fired : List ByteArray

def wrCells (l : List Wr) : List Value := l.flatMap fun p => [.string p.1, .int .i64 p.2]
theorem wrCells_snoc (l : List Wr) (p : Wr) : wrCells (l ++ [p]) = wrCells l ++ [.string p.1, .int .i64 p.2] := by simp [wrCells]
theorem wrCells_at : ∀ (l : List Wr) (k : Nat) (hk : k < l.length), (wrCells l)[k * 2]? = some (.string l[k].1) ∧ (wrCells l)[k * 2 + 1]? = some (.int .i64 l[k].2)
  | p :: l, 0, _ => ⟨rfl, rfl⟩
  | p :: l, k + 1, hk => by
    obtain ⟨h1, h2⟩ := wrCells_at l k (by simpa using hk)
    have e : wrCells (p :: l) = .string p.1 :: .int .i64 p.2 :: wrCells l := rfl
    rw [e, show (k + 1) * 2 = k * 2 + 1 + 1 by omega]
    exact ⟨by simpa using h1, by simpa using h2⟩

/-- The place of the last write to a cell. -/
def lastI (c : ByteArray) : List Wr → Option Nat
  | [] => none
  | p :: l => match lastI c l with | some k => some (k + 1) | none => if p.1 = c then some 0 else none
def lastR (l : List Wr) (c : ByteArray) : Int := match lastI c l with | some k => k | none => -1
theorem lastI_none {c : ByteArray} : ∀ {l : List Wr}, (∀ j (h : j < l.length), l[j].1 ≠ c) → lastI c l = none
  | [], _ => rfl
  | p :: l, h => by
    have h1 : lastI c l = none := lastI_none (fun j hj => h (j + 1) (by simpa using hj))
    have h2 : ¬ p.1 = c := h 0 (by simp)
    simp [lastI, h1, h2]
theorem lastI_some {c : ByteArray} : ∀ {l : List Wr} {k : Nat} (hk : k < l.length), l[k].1 = c → (∀ j (h : j < l.length), k < j → l[j].1 ≠ c) → lastI c l = some k
  | p :: l, 0, _, h1, h2 => by
    have h3 : lastI c l = none := lastI_none (fun j hj => h2 (j + 1) (by simpa using hj) (by omega))
    have h4 : p.1 = c := by simpa using h1
    simp [lastI, h3, h4]
  | p :: l, k + 1, hk, h1, h2 => by
    have h3 : lastI c l = some k := lastI_some (by simpa using hk) (by simpa using h1) (fun j hj hlt => h2 (j + 1) (by simpa using hj) (by omega))
    simp [lastI, h3]

theorem str_eq {a b : ByteArray} : (a.toList == b.toList) = decide (a = b) := by
  rw [Bool.eq_iff_iff]
  simp only [beq_iff_eq, decide_eq_true_eq]
  constructor
  · intro h
    rw [Lib.toList_data, Lib.toList_data] at h
    exact ByteArray.ext (Array.toList_inj.mp h)
  · intro h; rw [h]

set_option maxRecDepth 20000 in
set_option maxHeartbeats 1000000 in
theorem last_any (l : List Wr) (c : ByteArray) (a : Option Addr) (m cp B : Nat) (w : World) (hl : l.length ≤ 9223372036854775807) (h : w.ownsRow B 107 2 (.slice a m cp) l.length (wrCells l)) :
    Calls Tryz.prog 87 #[.slice a m cp, .string c] w fun e w' => e = .returned (.int .i64 (lastR l c)) ∧ w' = w := by
  have em := own_len h
  subst em
  obtain ⟨r, hr⟩ : ∃ r, r = lastR l c := ⟨_, rfl⟩
  rw [← hr]
  have HR := hid hr
  clear hr
  go_enter Tryz.func87, Tryz.ntmps87
  go_wp2_with fail
  go_loop [5] (fun t => ∃ k : Nat, k ≤ l.length ∧ t = .int .i64 ((k : Int) - 1) ∧ ∀ j (h : j < l.length), k ≤ j → l[j].1 ≠ c) (fun t => (intOf t + 1).toNat)
  case atStart => exact ⟨l.length, Nat.le_refl _, rfl, fun j h1 h2 => by omega⟩
  case round =>
    obtain ⟨k, hk, rfl, hno⟩ := hrel
    have HN := hid hno
    clear hno
    cases k with
    | zero =>
      have HU : Hid (r = -1) := hid (by rw [HR.out]; unfold lastR; rw [lastI_none (fun j hj => HN.out j hj (Nat.zero_le _))])
      go_wp2
      go_ret
      exact ⟨ret_int HU.out.symm, rfl⟩
    | succ k =>
      have hlt : k < l.length := by omega
      obtain ⟨g, rfl, _, hgb, hgl, hcell⟩ := own_cell h (by omega)
      have d0 := hcell _ _ (wrCells_at l k hlt).1
      have hk0 : ((k + 1 : Nat) : Int) - 1 = (k : Int) := by omega
      rw [hk0]
      clear hcell
      obtain ⟨u, hu⟩ : ∃ u, u = l[k].1 := ⟨_, rfl⟩
      rw [← hu] at d0
      have HX := hid hu
      clear hu hk0
      by_cases he : u = c
      · have q : (u.toList == c.toList) = true := by rw [str_eq]; simpa using he
        have HU : Hid (r = k) := hid (by rw [HR.out]; unfold lastR; rw [lastI_some hlt (by rw [← HX.out]; exact he) (fun j hj hkj => HN.out j hj (by omega))])
        clear he
        go_wp2
        go_ret
        exact ⟨ret_int HU.out.symm, rfl⟩
      · have q : (u.toList == c.toList) = false := by rw [str_eq]; simpa using he
        have HN' : Hid (∀ j (h : j < l.length), k ≤ j → l[j].1 ≠ c) := hid (by
          intro j hj hkj
          by_cases e : j = k
          · subst e; rw [← HX.out]; exact he
          · exact HN.out j hj (by omega))
        clear he
        go_wp2
        go_round
        case rel => exact ⟨k, by omega, rfl, HN'.out⟩
        case measure => simp [intOf]

/-- What a cell has at a stamp, and the stamp of that version. -/
def atF (com : List (List Wr)) (c : ByteArray) : Nat → Int × Int
  | 0 => (-1, 0)
  | t + 1 => match lastI c (com.getD t []) with | some k => (((com.getD t []).getD k (ByteArray.empty, 0)).2, (t : Int) + 1) | none => atF com c t

/-- A commit's writes. -/
def ComA (v : Value) (l : List Wr) : Asn := RowA 107 2 v l.length (wrCells l)
theorem lastI_lt {c : ByteArray} : ∀ {l : List Wr} {k : Nat}, lastI c l = some k → k < l.length
  | [], k, h => by cases h
  | p :: l, k, h => by
    unfold lastI at h
    cases h1 : lastI c l with
    | some j => rw [h1] at h; simp at h; have := lastI_lt h1; simp; omega
    | none => rw [h1] at h; simp at h; simp; omega
theorem ComA.parts {v : Value} {l : List Wr} {w : World} {f : List Nat} (h : ComA v l w f) : ∃ a m c, v = .slice a m c ∧ w.ownsRow 0 107 2 (.slice a m c) l.length (wrCells l) := by
  obtain ⟨h1, _⟩ := h
  obtain ⟨a, m, c, rfl⟩ := own_slice h1
  exact ⟨a, m, c, rfl, h1⟩

set_option maxRecDepth 20000 in
set_option maxHeartbeats 1000000 in
theorem at_any (y : Nat) (com : List (List Wr)) (cs : List Value) (fc : List Nat) (c : ByteArray) (st : Nat) (a : Option Addr) (m cp : Nat) (w : World)
    (hc : w.cell? ⟨y, 2, none⟩ = some (.slice a m cp)) (hrow : w.ownsRow 0 97 1 (.slice a m cp) com.length cs) (hcom : EachA ComA cs com w fc) (hst : st ≤ com.length) (hlen : com.length ≤ 9223372036854775807) (hl : ∀ l ∈ com, l.length ≤ 9223372036854775807) :
    Calls Tryz.prog 59 #[.pointer (some ⟨y, 0, none⟩), .string c, .int .i64 st] w fun e w' => e = .returned (.tuple #[.int .i64 (atF com c st).1, .int .i64 (atF com c st).2]) ∧ w' = w := by
  have em := own_len hrow
  subst em
  obtain ⟨r, hr⟩ : ∃ r, r = atF com c st := ⟨_, rfl⟩
  rw [← hr]
  have HR := hid hr
  have HCOM := hid hcom
  have HL := hid hl
  have hcl := EachA.len hcom
  clear hr hcom hl
  go_enter Tryz.func59, Tryz.ntmps59
  go_wp2_with fail
  go_loop [8] (fun t => ∃ k : Nat, k ≤ st ∧ t = .int .i64 k ∧ r = atF com c k) (fun t => (intOf t).toNat)
  case atStart => exact ⟨st, Nat.le_refl _, rfl, HR.out⟩
  case round =>
    obtain ⟨k, hk, rfl, hrk⟩ := hrel
    have HRK := hid hrk
    clear hrk
    cases k with
    | zero =>
      go_wp2
      go_ret2
      exact ⟨by rw [HRK.out]; rfl, rfl⟩
    | succ k =>
      have hlt : k < com.length := by omega
      have hlt2 : k < cs.length := by omega
      obtain ⟨g, rfl, _, hgb, hgl, hcell⟩ := own_cell hrow (by omega)
      obtain ⟨f1, hcm, _⟩ := EachA.get HCOM.out k hlt2 hlt
      obtain ⟨a1, m1, c1, hv1, ho1⟩ := hcm.parts
      have d0 : w.cell? ⟨g, k, none⟩ = some (.slice a1 m1 c1) := by rw [← hv1]; exact hcell k _ (List.getElem?_eq_getElem hlt2)
      have HLA := hid (last_any com[k] c a1 m1 c1 0 w (HL.out _ (List.getElem_mem hlt)) ho1)
      have hgd : com.getD k [] = com[k] := by simp [List.getD, hlt]
      have HAT : Hid (atF com c (k + 1) = match lastI c com[k] with | some j => ((com[k].getD j (ByteArray.empty, 0)).2, (k : Int) + 1) | none => atF com c k) := hid (by rw [atF, hgd])
      have e1 : ((k + 1 : Nat) : Int) = (k : Int) + 1 := by omega
      rw [e1]
      clear hcell hv1 hcm hgd e1
      cases hla : lastI c com[k] with
      | none =>
        have e2 : lastR com[k] c = -1 := by unfold lastR; rw [hla]
        rw [e2] at HLA
        have HAT' : Hid (r = atF com c k) := hid (by rw [HRK.out, HAT.out, hla])
        clear hla e2 ho1
        go_wp2_with (go_at_call 87; refine HLA.out.mono ?_; rintro e w' ⟨rfl, rfl⟩)
        go_round
        case rel => exact ⟨k, by omega, by go_num, HAT'.out⟩
        case measure => simp [intOf]
      | some j =>
        have hj := lastI_lt hla
        have e2 : lastR com[k] c = j := by unfold lastR; rw [hla]
        rw [e2] at HLA
        have HAT' : Hid (r = ((com[k].getD j (ByteArray.empty, 0)).2, (k : Int) + 1)) := hid (by rw [HRK.out, HAT.out, hla])
        have hll := HL.out _ (List.getElem_mem hlt)
        have hjd : (com[k].getD j (ByteArray.empty, 0)).2 = com[k][j].2 := by simp [List.getD, hj]
        rw [hjd] at HAT'
        have HO1 := hid ho1
        have HJ := hid hj
        clear hla e2 ho1 hjd
        go_wp2_with fail
        go_at_call 87
        refine HLA.out.mono ?_
        rintro e w' ⟨rfl, rfl⟩
        obtain ⟨g1, rfl, em1, hgb1, hgl1, hcell1⟩ := own_cell HO1.out (by omega)
        have d1 := hcell1 _ _ (wrCells_at com[k] j hj).2
        subst em1
        clear hcell1 HLA
        go_wp2
        go_ret2
        exact ⟨by rw [HAT'.out]; rfl, rfl⟩

/-- A session in memory. -/
def SesA (p : Value) (S : Ses) : Asn := fun w f => ∃ g wv fv, p = .pointer (some ⟨g, 0, none⟩) ∧
  Star (BlockA g #[.int .i64 S.num, .int .i64 S.snap, wv, fv] 100) (Star (RowA 107 2 wv S.wr.length (wrCells S.wr)) (RowA 9 1 fv S.fired.length (S.fired.map Value.string))) w f
theorem SesA.framed (p : Value) (S : Ses) : Framed (SesA p S) := by
  rintro T w w' f ⟨g, wv, fv, e, h⟩ hf hs
  exact ⟨g, wv, fv, e, Star.framed (BlockA.framed _ _ _) (Star.framed (RowA.framed _ _ _ _ _) (RowA.framed _ _ _ _ _)) h hf hs⟩
theorem SesA.within (p : Value) (S : Ses) : Within (SesA p S) := by
  rintro w f ⟨g, wv, fv, e, h⟩
  exact Star.within (BlockA.within _ _ _) (Star.within (RowA.within _ _ _ _ _) (RowA.within _ _ _ _ _)) h
/-- What a session's block holds. -/
theorem SesA.open {p : Value} {S : Ses} {w : World} {f : List Nat} (h : SesA p S w f) : ∃ g a1 m1 c1 a2 m2 c2, p = .pointer (some ⟨g, 0, none⟩) ∧ w.heap[g]? = some (.cells #[.int .i64 S.num, .int .i64 S.snap, .slice a1 m1 c1, .slice a2 m2 c2] 100 (0, 0)) ∧
    w.ownsRow 0 107 2 (.slice a1 m1 c1) S.wr.length (wrCells S.wr) ∧ w.ownsRow 0 9 1 (.slice a2 m2 c2) S.fired.length (S.fired.map Value.string) ∧ g ∈ f := by
  obtain ⟨g, wv, fv, e, f1, f2, ⟨hb, rfl⟩, ⟨f3, f4, ⟨h1, rfl⟩, ⟨h2, rfl⟩, rfl⟩, rfl⟩ := h
  obtain ⟨a1, m1, c1, rfl⟩ := own_slice h1
  obtain ⟨a2, m2, c2, rfl⟩ := own_slice h2
  exact ⟨g, a1, m1, c1, a2, m2, c2, e, hb, h1, h2, by simp⟩

/-- What Find answers: the first session of the number, or nothing. -/
def FindAns (opn : List Ses) (ps : List Value) (n : Int) (u : Value) : Prop :=
  (∃ (k : Nat) (h1 : k < opn.length) (h2 : k < ps.length), opn[k].num = n ∧ (∀ j (h : j < opn.length), j < k → opn[j].num ≠ n) ∧ u = ps[k]) ∨ ((∀ j (h : j < opn.length), opn[j].num ≠ n) ∧ u = .pointer none)

set_option maxRecDepth 20000 in
set_option maxHeartbeats 1000000 in
theorem find_any (y : Nat) (opn : List Ses) (ps : List Value) (fs : List Nat) (n : Int) (a : Option Addr) (m cp : Nat) (w : World)
    (hc : w.cell? ⟨y, 4, none⟩ = some (.slice a m cp)) (hrow : w.ownsRow 0 96 1 (.slice a m cp) opn.length ps) (hses : EachA SesA ps opn w fs) (hlen : opn.length ≤ 9223372036854775807) :
    Calls Tryz.prog 44 #[.pointer (some ⟨y, 0, none⟩), .int .i64 n] w fun e w' => (∃ u, e = .returned u ∧ FindAns opn ps n u) ∧ w' = w := by
  have em := own_len hrow
  subst em
  have hpl := EachA.len hses
  have HS := hid hses
  clear hses
  go_enter Tryz.func44, Tryz.ntmps44
  go_wp2_with fail
  go_loop [5] (fun t => ∃ k : Nat, k ≤ opn.length ∧ t = .int .i64 k ∧ ∀ j (h : j < opn.length), j < k → opn[j].num ≠ n) (fun t => opn.length - (intOf t).toNat)
  case atStart => exact ⟨0, Nat.zero_le _, rfl, fun j _ h => by omega⟩
  case round =>
    obtain ⟨k, hk, rfl, hno⟩ := hrel
    have HN := hid hno
    clear hno
    by_cases hlt : k < opn.length
    · have hlt2 : k < ps.length := by omega
      obtain ⟨g, rfl, _, hgb, hgl, hcell⟩ := own_cell hrow (by omega)
      obtain ⟨f1, hse, _⟩ := EachA.get HS.out k hlt2 hlt
      obtain ⟨g1, a1, m1, c1, a2, m2, c2, hp, hb, _, _, _⟩ := hse.open
      have d0 : w.cell? ⟨g, k, none⟩ = some (.pointer (some ⟨g1, 0, none⟩)) := by rw [← hp]; exact hcell k _ (List.getElem?_eq_getElem hlt2)
      have d1 : w.cell? ⟨g1, 0, none⟩ = some (.int .i64 opn[k].num) := by simp [World.cell?, hb]
      have HP := hid hp
      clear hcell hse hb hp
      obtain ⟨nn, hnn⟩ : ∃ nn, nn = opn[k].num := ⟨_, rfl⟩
      rw [← hnn] at d1
      have HNN := hid hnn
      clear hnn
      by_cases he : nn = n
      · have q : (nn == n) = true := by simpa using he
        have HF : Hid (FindAns opn ps n (.pointer (some ⟨g1, 0, none⟩))) := hid (.inl ⟨k, hlt, hlt2, by rw [← HNN.out]; exact he, HN.out, HP.out.symm⟩)
        clear he
        go_wp2
        go_ret
        exact ⟨⟨_, rfl, HF.out⟩, rfl⟩
      · have q : (nn == n) = false := by simpa using he
        have HN' : Hid (∀ j (h : j < opn.length), j < k + 1 → opn[j].num ≠ n) := hid (by
          intro j hj hjk
          by_cases e : j = k
          · subst e; rw [← HNN.out]; exact he
          · exact HN.out j hj (by omega))
        clear he
        go_wp2
        go_round
        case rel => exact ⟨k + 1, by omega, by go_num, HN'.out⟩
        case measure => simp [intOf]; omega
    · go_wp2
      go_ret
      exact ⟨⟨_, rfl, .inr ⟨fun j hj => HN.out j hj (by omega), rfl⟩⟩, rfl⟩

end Go.Proofs.YthlhbjnkohinmaaGreat

/- The document's engine: what a session sees. -/
namespace Go.Proofs.YthlhbjnkohinmaaGreat
open Go.RowKit

/-- The text of the k-th cell. -/
def cellT (k : Nat) : ByteArray := strOfNums [97 + (k : Int) / 10, 48 + (k : Int) % 10]

set_option maxRecDepth 20000 in
set_option maxHeartbeats 1000000 in
theorem cell_any (k : Nat) (w : World) (hk : k < 60) :
    Calls Tryz.prog 84 #[.int .i64 k] w fun e w' => e = .returned (.string (cellT k)) ∧ w.grownBy w' none := by
  have h1 : (97 : Int) + (k : Int) / 10 ≤ 255 := by omega
  have h2 : (48 : Int) + (k : Int) % 10 ≤ 255 := by omega
  have hcv := run_convert_bytes_arg (P := Tryz.prog) (w.alloc (.cells #[.int .u8 (97 + (k : Int) / 10), .int .u8 (48 + (k : Int) % 10)] 5)) 160 5 Tryz.underlying160 Tryz.underlying5 w.heap.size 0 2 2 [97 + (k : Int) / 10, 48 + (k : Int) % 10] rfl (by
    intro i hi
    rw [World.cell?_alloc_at _ _ _ _ rfl]
    match i, hi with
    | 0, _ => rfl
    | 1, _ => rfl) 9 Tryz.underlying9
  go_enter Tryz.func84, Tryz.ntmps84
  go_wp2
  go_ret
  exact ⟨rfl, grown_alloc (grown_refl _ _) _⟩

/-- What a session sees of a cell, and since when. -/
def seesF (com : List (List Wr)) (S : Ses) (c : ByteArray) : Int × Int := match lastI c S.wr with
  | some k => ((S.wr.getD k (ByteArray.empty, 0)).2, (k : Int) + 1)
  | none => ((atF com c S.snap.toNat).1, (atF com c S.snap.toNat).2 - com.length - 1)

theorem atF_bd (com : List (List Wr)) (c : ByteArray) : ∀ t, 0 ≤ (atF com c t).2 ∧ (atF com c t).2 ≤ t
  | 0 => by simp [atF]
  | t + 1 => by
    have := atF_bd com c t
    unfold atF
    split
    · simp; omega
    · omega

set_option maxRecDepth 20000 in
set_option maxHeartbeats 2000000 in
theorem sees_any (y : Nat) (com : List (List Wr)) (cs : List Value) (fc : List Nat) (S : Ses) (p : Value) (fp : List Nat) (c : ByteArray) (a : Option Addr) (m cp : Nat) (w : World)
    (hc : w.cell? ⟨y, 2, none⟩ = some (.slice a m cp)) (hrow : w.ownsRow 0 97 1 (.slice a m cp) com.length cs) (hcom : EachA ComA cs com w fc) (hses : SesA p S w fp) (hsn : 0 ≤ S.snap) (hst : S.snap ≤ com.length) (hlen : com.length ≤ 9223372036854775806) (hl : ∀ l ∈ com, l.length ≤ 9223372036854775807) (hwl : S.wr.length ≤ 9223372036854775806) :
    Calls Tryz.prog 85 #[.pointer (some ⟨y, 0, none⟩), p, .string c] w fun e w' => e = .returned (.tuple #[.int .i64 (seesF com S c).1, .int .i64 (seesF com S c).2]) ∧ ∃ n, w' = w.drewN n := by
  obtain ⟨g1, a1, m1, c1, a2, m2, c2, rfl, hb, ho1, ho2, _⟩ := hses.open
  have d1 : w.cell? ⟨g1, 1, none⟩ = some (.int .i64 S.snap) := by simp [World.cell?, hb]
  have d2 : w.cell? ⟨g1, 2, none⟩ = some (.slice a1 m1 c1) := by simp [World.cell?, hb]
  have HLA := hid (last_any S.wr c a1 m1 c1 0 w (by omega) ho1)
  obtain ⟨r, hr⟩ : ∃ r, r = seesF com S c := ⟨_, rfl⟩
  rw [← hr]
  have HR := hid hr
  have HO1 := hid ho1
  clear hr hb ho2 hses ho1
  cases hla : lastI c S.wr with
  | some k =>
    have hk := lastI_lt hla
    have e2 : lastR S.wr c = k := by unfold lastR; rw [hla]
    rw [e2] at HLA
    have HV : Hid (r = (S.wr[k].2, (k : Int) + 1)) := hid (by rw [HR.out]; unfold seesF; rw [hla]; simp [List.getD, hk])
    clear hla e2 hcom
    go_enter Tryz.func85, Tryz.ntmps85
    go_wp2_with fail
    go_at_call 87
    refine HLA.out.mono ?_
    rintro e w' ⟨rfl, rfl⟩
    obtain ⟨g2, rfl, em1, hgb1, hgl1, hcell1⟩ := own_cell HO1.out (by omega)
    have d3 := hcell1 _ _ (wrCells_at S.wr k hk).2
    subst em1
    clear hcell1 HLA
    go_wp2
    go_ret2
    exact ⟨by rw [HV.out]; rfl, 0, rfl⟩
  | none =>
    have e2 : lastR S.wr c = -1 := by unfold lastR; rw [hla]
    rw [e2] at HLA
    obtain ⟨st, hst'⟩ : ∃ st : Nat, S.snap = st := ⟨S.snap.toNat, by omega⟩
    have HV : Hid (r = ((atF com c st).1, (atF com c st).2 - com.length - 1)) := hid (by rw [HR.out]; unfold seesF; rw [hla, hst']; rfl)
    rw [hst'] at d1
    have HAT := hid (at_any y com cs fc c st a m cp w hc hrow hcom (by omega) (by omega) hl)
    have hbd := atF_bd com c st
    have em := own_len hrow
    subst em
    obtain ⟨v0, hv0⟩ : ∃ v0, v0 = (atF com c st).1 := ⟨_, rfl⟩
    obtain ⟨t0, ht0⟩ : ∃ t0, t0 = (atF com c st).2 := ⟨_, rfl⟩
    rw [← hv0, ← ht0] at HV HAT
    rw [← ht0] at hbd
    have hstl : st ≤ com.length := by omega
    clear hla e2 hcom hv0 ht0 hst' hsn hst
    go_enter Tryz.func85, Tryz.ntmps85
    go_wp2_with fail
    go_at_call 87
    refine HLA.out.mono ?_
    rintro e w' ⟨rfl, rfl⟩
    go_wp2_with fail
    go_at_call 59
    refine HAT.out.mono ?_
    rintro e w' ⟨rfl, rfl⟩
    clear HLA HAT
    go_wp2_with fail
    go_quiet ((fail))
    go_wp2
    go_ret2
    exact ⟨by rw [HV.out]; rfl, _, rfl⟩

end Go.Proofs.YthlhbjnkohinmaaGreat

/- The document's engine: the facts that a session sees. -/
namespace Go.Proofs.YthlhbjnkohinmaaGreat
open Go.RowKit

/-- The fact of the k-th cell, if there is one. -/
def factAt (com : List (List Wr)) (S : Ses) (k : Nat) : Option ByteArray :=
  if 0 ≤ (seesF com S (cellT k)).1 then some (cellT k ++ strOfNums [48 + (seesF com S (cellT k)).1]) else none
def factsN (com : List (List Wr)) (S : Ses) (n : Nat) : List ByteArray := (List.range n).filterMap (factAt com S)
theorem factsN_succ (com : List (List Wr)) (S : Ses) (n : Nat) : factsN com S (n + 1) = factsN com S n ++ (factAt com S n).toList := by
  unfold factsN
  rw [List.range_succ, List.filterMap_append]
  cases h : factAt com S n <;> simp [h]
theorem factsN_le (com : List (List Wr)) (S : Ses) (n : Nat) : (factsN com S n).length ≤ n := by
  have := List.length_filterMap_le (factAt com S) (List.range n)
  simpa [factsN] using this

theorem size_nums1 (x : Int) : (strOfNums [x]).size = 1 := rfl
theorem size_cellT (k : Nat) : (cellT k).size = 2 := rfl

theorem ComA.framed (v : Value) (l : List Wr) : Framed (ComA v l) := RowA.framed _ _ _ _ _
/-- All that View needs of an engine: its commits, and a session. -/
structure EngOk (y : Nat) (com : List (List Wr)) (S : Ses) (p : Value) (a : Option Addr) (cp : Nat) (cs : List Value) (fc fp : List Nat) (w : World) : Prop where
  cell : w.cell? ⟨y, 2, none⟩ = some (.slice a com.length cp)
  row : w.ownsRow 0 97 1 (.slice a com.length cp) com.length cs
  com : EachA ComA cs com w fc
  ses : SesA p S w fp
theorem EngOk.kept {y : Nat} {com : List (List Wr)} {S : Ses} {p : Value} {a : Option Addr} {cp : Nat} {cs : List Value} {fc fp : List Nat} {w w' : World} (h : EngOk y com S p a cp cs fc fp w) (hg : w.grownBy w' none) : EngOk y com S p a cp cs fc fp w' :=
  ⟨hg.cell h.cell (by simp), own_kept h.row hg (fun g hg => by cases hg), EachA.framed ComA.framed _ _ h.com (fr_none hg) (by simp), SesA.framed _ _ h.ses (fr_none hg) (by simp)⟩

set_option maxRecDepth 20000 in
set_option maxHeartbeats 2000000 in
theorem facts_any (y : Nat) (com : List (List Wr)) (S : Ses) (p : Value) (a : Option Addr) (cp : Nat) (cs : List Value) (fc fp : List Nat) (w : World)
    (hE : EngOk y com S p a cp cs fc fp w) (hsn : 0 ≤ S.snap) (hst : S.snap ≤ com.length) (hlen : com.length ≤ 9223372036854775806) (hl : ∀ l ∈ com, l.length ≤ 9223372036854775807) (hwl : S.wr.length ≤ 9223372036854775806) (hv : ∀ c, (seesF com S c).1 ≤ 9) :
    Calls Tryz.prog 51 #[.pointer (some ⟨y, 0, none⟩), p] w fun e w' => ∃ v, e = .returned v ∧ w'.ownsRow w.heap.size 9 1 v (factsN com S 60).length ((factsN com S 60).map Value.string) ∧ w.grownBy w' none := by
  obtain ⟨i0, hi0, hz0, hz1, hz2⟩ := info_parts Tryz.info9
  have HE := hid hE
  have HSEE : Hid (∀ (k : Nat) (W : World), EngOk y com S p a cp cs fc fp W → Calls Tryz.prog 85 #[.pointer (some ⟨y, 0, none⟩), p, .string (cellT k)] W fun e w' => e = .returned (.tuple #[.int .i64 (seesF com S (cellT k)).1, .int .i64 (seesF com S (cellT k)).2]) ∧ ∃ n, w' = W.drewN n) :=
    hid (fun k W h => sees_any y com cs fc S p fp (cellT k) a _ cp W h.cell h.row h.com h.ses hsn hst hlen hl hwl)
  have HVAL := hid hv
  clear hE hsn hst hlen hl hwl hv
  go_enter Tryz.func51, Tryz.ntmps51
  go_wp2_with fail
  go_loopw [5, 6] (fun v t wr => ∃ k : Nat, k ≤ 60 ∧ t = .int .i64 k ∧ wr.ownsRow w.heap.size 9 1 v (factsN com S k).length ((factsN com S k).map Value.string) ∧ w.grownBy wr none) (fun _ t _ => 60 - (intOf t).toNat)
  case atStart => exact ⟨0, by omega, rfl, World.ownsRow_nil _ _ _ _, grown_refl _ _⟩
  case round =>
    obtain ⟨k, hk, rfl, hown, hg⟩ := hrel
    by_cases hlt : k < 60
    · have HCE := hid (cell_any k wr hlt)
      have HFS := hid (factsN_succ com S k)
      have hfl := factsN_le com S k
      go_wp2_with fail
      go_at_call 84
      refine HCE.out.mono ?_
      rintro e w1 ⟨rfl, hg1⟩
      have HSE1 := hid (HSEE.out k w1 ((HE.out.kept hg).kept hg1))
      obtain ⟨ct, hct⟩ : ∃ ct, ct = cellT k := ⟨_, rfl⟩
      rw [← hct] at HSE1 ⊢
      obtain ⟨v0, hv0⟩ : ∃ v0, v0 = (seesF com S ct).1 := ⟨_, rfl⟩
      obtain ⟨t0, ht0⟩ : ∃ t0, t0 = (seesF com S ct).2 := ⟨_, rfl⟩
      have hv9 := HVAL.out ct
      rw [← hv0] at hv9
      rw [← hv0, ← ht0] at HSE1
      have hcs : ct.size = 2 := by rw [hct]; rfl
      have HFA : Hid (factAt com S k = if 0 ≤ v0 then some (ct ++ strOfNums [48 + v0]) else none) := hid (by unfold factAt; rw [← hct, ← hv0])
      clear hct hv0 ht0 HCE
      go_wp2_with fail
      go_at_call 85
      refine HSE1.out.mono ?_
      rintro e w2 ⟨rfl, n2, hw2⟩
      have hg2 : w1.grownBy w2 none := by rw [hw2]; exact grown_drewN (grown_refl _ _) _
      have hg12 := grown_trans hg (grown_trans hg1 hg2)
      have hown2 := own_kept hown (grown_trans hg1 hg2) (fun g hg => by cases hg)
      have hsz := hg12.size
      clear hw2 HSE1
      by_cases h0 : 0 ≤ v0
      · have hcv := run_convert_bytes_arg (P := Tryz.prog) (w2.alloc (.cells #[.int .u8 (48 + v0)] 5)) 160 5 Tryz.underlying160 Tryz.underlying5 w2.heap.size 0 1 1 [48 + v0] rfl (by
          intro i hi
          rw [World.cell?_alloc_at _ _ _ _ rfl]
          match i, hi with
          | 0, _ => rfl) 9 Tryz.underlying9
        have hs1 : (strOfNums [48 + v0]).size = 1 := rfl
        have HF' : Hid (factsN com S (k + 1) = factsN com S k ++ [ct ++ strOfNums [48 + v0]]) := hid (by rw [HFS.out, HFA.out, if_pos h0]; rfl)
        obtain ⟨nt, hnt⟩ : ∃ nt, nt = strOfNums [48 + v0] := ⟨_, rfl⟩
        rw [← hnt] at hcv hs1 HF'
        clear hnt hg hg1 hg2 hown
        go_wp2_with (first | (at_builtin; refine wpList_append_own _ rfl (.tmp 25) (.tmp 33) 98 rfl (w.heap.size) 9 i0 (.string ByteArray.empty) 1 16 Tryz.underlying98 hi0 hz0 hz1 hz2 rfl (by decide) _ _ _ rfl ((hown2.alloc _).alloc _) _ 1 1 [.string (ct ++ nt)] rfl rfl ?c1 ?c2 ?c3 ?c4 ?c5 ?_))
        case c1 => intro j u hj; exact news_at hj
        case c2 => intro u hu; simp at hu; subst hu; rfl
        case c3 => unfold maxLen; omega
        case c4 => omega
        case c5 => simp; omega
        · intro v' w3 hown3 hg3 _
          have hown3' : w3.ownsRow w.heap.size 9 1 v' (factsN com S (k + 1)).length ((factsN com S (k + 1)).map Value.string) := by rw [HF'.out]; simpa using hown3
          have hg3' : w.grownBy w3 none := grown_own2 (grown_alloc (grown_alloc hg12 _) _) hg3 (fun g hg => (hown2.lt g hg).1)
          clear hown3 hg3 hown2 hg12 hcv
          go_wp2
          go_roundw
          case rel => exact ⟨k + 1, by omega, by go_num, hown3', hg3'⟩
          case measure => simp [intOf]; omega
      · have HF' : Hid (factsN com S (k + 1) = factsN com S k) := hid (by rw [HFS.out, HFA.out, if_neg h0]; simp)
        clear hg hg1 hg2 hown
        go_wp2
        go_roundw
        case rel => exact ⟨k + 1, by omega, by go_num, by rw [HF'.out]; exact hown2, hg12⟩
        case measure => simp [intOf]; omega
    · have e : k = 60 := by omega
      subst e
      go_wp2
      go_ret
      exact ⟨_, rfl, hown, hg⟩

theorem factsN_size {com : List (List Wr)} {S : Ses} {n : Nat} : ∀ x ∈ factsN com S n, x.size = 3 := by
  intro x hx
  unfold factsN at hx
  obtain ⟨k, _, hk⟩ := List.mem_filterMap.mp hx
  unfold factAt at hk
  split at hk
  · cases hk; rw [ByteArray.size_append, size_cellT, size_nums1]
  · cases hk
theorem foldl_size : ∀ (l : List ByteArray) (z : ByteArray), (∀ x ∈ l, x.size = 3) → (l.foldl (· ++ ·) z).size = z.size + 3 * l.length
  | [], z, _ => by simp
  | x :: l, z, h => by
    rw [List.foldl_cons, foldl_size l (z ++ x) (fun y hy => h y (by simp [hy])), ByteArray.size_append, h x (by simp)]
    simp
    omega
theorem joined_size (l : List ByteArray) (h : ∀ x ∈ l, x.size = 3) : (joined l).size = 3 * l.length := by
  unfold joined
  rw [foldl_size l _ h]
  simp

end Go.Proofs.YthlhbjnkohinmaaGreat
