/- The book of Serial in memory: one client more. -/
import Derived.Test.YthlhbjnkohinmaaKeep3
import Derived.Deep.AppendLies
namespace Go.Proofs.Ythlhbjnkohinmaa
open Go.RowKit

def zeroCli : List Value := .int .i64 0 :: .int .i64 0 :: (List.replicate 60 (.bool false) ++ List.replicate 60 (.int .u8 0))
theorem zero_cli : Try.zeroCells68.toList = zeroCli := by kernel_rfl
theorem newCli {w : World} {g : Nat} {n m : Int} (hb : w.heap[g]? = some (.cells ((Try.zeroCells68.setIfInBounds 0 (.int .i64 n)).setIfInBounds 1 (.int .i64 m)) 68 (0, 0))) : CliAt w g ⟨n, m, fun _ => false, fun _ => 0⟩ := by
  have hz : ∀ i : Nat, Try.zeroCells68[i]? = zeroCli[i]? := fun i => by rw [← zero_cli, Array.getElem?_toList]
  have hsz : Try.zeroCells68.size = 122 := by
    have := congrArg List.length zero_cli
    rw [Array.length_toList] at this
    rw [this]
    rfl
  have far : ∀ i, 2 ≤ i → w.cell? ⟨g, i, none⟩ = zeroCli[i]? := fun i hi => by
    rw [cell_of_row _ _ _ _ _ _ hb, Array.getElem?_setIfInBounds_ne (by omega), Array.getElem?_setIfInBounds_ne (by omega), hz]
  refine ⟨⟨_, hb⟩, ?_, ?_, fun c hc => ?_, fun c hc => ?_⟩
  · rw [cell_of_row _ _ _ _ _ _ hb, Array.getElem?_setIfInBounds_ne (by omega), Array.getElem?_setIfInBounds_self_of_lt (by omega)]
  · rw [cell_of_row _ _ _ _ _ _ hb, Array.getElem?_setIfInBounds_self_of_lt (by rw [Array.size_setIfInBounds]; omega)]
  · rw [far _ (by omega), show 2 + c = c + 1 + 1 by omega]
    simp only [zeroCli, List.getElem?_cons_succ]
    rw [List.getElem?_append_left (by rw [List.length_replicate]; exact hc), List.getElem?_replicate, if_pos hc]
  · rw [far _ (by omega), show 62 + c = (60 + c) + 1 + 1 by omega]
    simp only [zeroCli, List.getElem?_cons_succ]
    rw [List.getElem?_append_right (by rw [List.length_replicate]; omega), List.length_replicate, show 60 + c - 60 = c by omega, List.getElem?_replicate, if_pos hc]

theorem bopen_close {b va : Nat} {B : Bk} {cap : Nat} {n : Int} {v : Value} {ps : List Value} {f2 f3 : List Nat} {w w3 : World} {ob : Obj}
    (h1 : BkAt w b B v) (h2 : RowA 69 1 v B.cls.length ps w f2) (h3 : EachA CliA ps B.cls w f3) (hn : (b :: (f2 ++ f3)).Nodup)
    (ho : w3.ownsRow 0 69 1 (.slice (some ⟨va, 0, none⟩) (B.cls.length + 1) cap) (B.cls.length + 1) (ps ++ [.pointer (some ⟨w.heap.size, 0, none⟩)]))
    (hg3 : ((w.drew.alloc (.cells ((Try.zeroCells68.setIfInBounds 0 (.int .i64 n)).setIfInBounds 1 (.int .i64 B.commits)) 68)).alloc ob).grownBy w3 v.ownBlock) (hva : v.ownBlock = some va ∨ va = w.heap.size + 2) :
    ATo (BkA b (B.open n)) (b :: (f2 ++ f3)) w (w3.setCell ⟨b, 0, none⟩ (.slice (some ⟨va, 0, none⟩) (B.cls.length + 1) cap)) := by
  obtain ⟨h2a, rfl⟩ := h2
  have hbl := h1.lt
  obtain ⟨cs, hb⟩ := h1.block
  have w2l : ∀ k ∈ v.ownBlock.toList, k < w.heap.size := RowA.within _ _ _ _ _ ⟨h2a, rfl⟩
  have w3l : ∀ k ∈ f3, k < w.heap.size := EachA.within CliA.within _ _ h3
  rw [List.nodup_cons, List.nodup_append] at hn
  obtain ⟨nb, n2, n3, nd⟩ := hn
  have hb2 : b ∉ v.ownBlock.toList := fun e => nb (by simp [e])
  have hb3 : b ∉ f3 := fun e => nb (by simp [e])
  have fr0 : Fr v.ownBlock.toList w w3 := ((((Fr.refl [] w).drewN 1).alloc _ |>.alloc _).mono (fun k hk => by cases hk)).trans (Fr.grown hg3)
  have s3 := fr0.size
  have hB3 : BkAt w3 b B v := h1.fr fr0 hb2
  obtain ⟨cs3, hbk3⟩ := hB3.block
  have hvn : va ≠ b := by
    rcases hva with h | h
    · intro e; subst e; exact hb2 (by rw [h]; simp)
    · omega
  have hcli : w3.heap[w.heap.size]? = some (.cells ((Try.zeroCells68.setIfInBounds 0 (.int .i64 n)).setIfInBounds 1 (.int .i64 B.commits)) 68 (0, 0)) := by
    have e1 := hg3.block w.heap.size (by simp; omega) (fun e => by have := w2l w.heap.size (by rw [← e]; simp); omega)
    exact e1.trans ((Below.heap_alloc _ _ _ (by simp)).trans (heap_alloc_at (by simp)))
  have hsz3 : w.heap.size + 1 < w3.heap.size := by
    have := hg3.size
    simp at this
    omega
  have hc : Chg w3 (w3.setCell ⟨b, 0, none⟩ (.slice (some ⟨va, 0, none⟩) (B.cls.length + 1) cap)) b 0 1 := (Chg.refl w3 b 0 1).set (by omega) (by omega) _
  have hE : EachA CliA (ps ++ [.pointer (some ⟨w.heap.size, 0, none⟩)]) (B.cls ++ [⟨n, B.commits, fun _ => false, fun _ => 0⟩]) w3 (f3 ++ [w.heap.size]) :=
    EachA.snoc (P := CliA) ⟨w.heap.size, rfl, newCli hcli, rfl⟩ (EachA.framed CliA.framed _ _ h3 fr0 (fun k hk e => nd k e k hk rfl))
  have hvb : va ∈ v.ownBlock.toList ∨ va = w.heap.size + 2 := by
    rcases hva with h | h
    · exact .inl (by rw [h]; simp)
    · exact .inr h
  refine ⟨b :: ([va] ++ (f3 ++ [w.heap.size])), ⟨.slice (some ⟨va, 0, none⟩) (B.cls.length + 1) cap, _, [va], _, ⟨hc.blk hbk3, ?_, (hc.cell _ (by omega)).trans hB3.commits, fun c hcl => (hc.cell _ (by omega)).trans (hB3.latest c hcl), fun c hcl => (hc.cell _ (by omega)).trans (hB3.vals c hcl)⟩, ⟨?_, rfl⟩, EachA.framed CliA.framed _ _ hE hc.fr ?_, rfl⟩, ?_, ?_, ?_⟩
  · rw [World.cell?_setCell_same _ _ _ hB3.cls]
  · have : (B.open n).cls.length = B.cls.length + 1 := by simp [Bk.open]
    rw [this]
    exact ownsRow_setCell_other ho (by simp [Value.ownBlock, hvn]) _
  · intro k hk e
    simp at e
    subst e
    simp at hk
    rcases hk with hk | hk
    · exact hb3 hk
    · omega
  · rw [List.nodup_cons]
    constructor
    · intro hm
      simp at hm
      rcases hm with h | h | h
      · exact hvn h.symm
      · exact hb3 h
      · omega
    · simp only [List.singleton_append, List.nodup_cons]
      constructor
      · intro hm
        simp at hm
        rcases hvb with hv | hv
        · have := w2l va hv
          rcases hm with h | h
          · exact nd va hv va h rfl
          · omega
        · rcases hm with h | h
          · have := w3l va h; omega
          · omega
      · rw [List.nodup_append]
        refine ⟨n3, by simp, ?_⟩
        rintro a ha c hcm rfl
        have := w3l a ha
        simp at hcm
        omega
  · intro k hk
    simp at hk ⊢
    rcases hk with h | h | h | h
    · exact .inl (.inl h)
    · subst h
      rcases hvb with hv | hv
      · have : v.ownBlock = some k := by simpa using hv
        exact .inl (.inr (.inl this))
      · exact .inr (by omega)
    · exact .inl (.inr (.inr h))
    · exact .inr (by omega)
  · exact (fr0.mono (fun k hk => .inl (by simp at hk ⊢; simp [hk]))).trans (hc.fr.mono (fun k hk => .inl (by simp at hk ⊢; simp [hk])))

theorem liveN_succ (l : List Cli) {k : Nat} (hk : k < l.length) : liveN (l.take (k + 1)) = liveN (l.take k) + (if l[k].num > 0 then 1 else 0) := by
  unfold liveN
  rw [List.take_succ_eq_append_getElem hk, List.filter_append, List.length_append]
  congr 1
  by_cases h : l[k].num > 0
  · simp [h]
  · simp [h]
theorem liveN_le (l : List Cli) (k : Nat) : liveN (l.take k) ≤ k := by
  unfold liveN
  have := List.length_filter_le (fun C : Cli => decide (C.num > 0)) (l.take k)
  have h2 := List.length_take_le k l
  omega

theorem Try.info69 : (Try.prog.info? 69).map (fun i => (i.zero, i.size, i.bytes)) = some (some (.pointer none), 1, 8) := by kernel_rfl

/-- The book and the engine beside it. -/
structure KAt (b x : Nat) (B : Bk) (X : PEng) (w : World) (fb fx : List Nat) : Prop where
  book : BkA b B w fb
  eng : PEngA x X w fx
  nodup : (fb ++ fx).Nodup
def KTo (b x : Nat) (B' : Bk) (X' : PEng) (f : List Nat) (w w' : World) : Prop := ∃ fb fx, KAt b x B' X' w' fb fx ∧ (∀ y ∈ fb ++ fx, y ∈ f ∨ w.heap.size ≤ y) ∧ Fr f w w'
theorem KAt.parts {b x : Nat} {B : Bk} {X : PEng} {w : World} {fb fx : List Nat} (h : KAt b x B X w fb fx) : fb.Nodup ∧ fx.Nodup ∧ (∀ y ∈ fb, y ∉ fx) ∧ (∀ y ∈ fb, y < w.heap.size) ∧ (∀ y ∈ fx, y < w.heap.size) := by
  have hn := h.nodup
  rw [List.nodup_append] at hn
  exact ⟨hn.1, hn.2.1, fun y hy hx => hn.2.2 y hy y hx rfl, BkA.within _ _ h.book, PEngA.within _ _ h.eng⟩
/-- First the engine, then the book. -/
theorem KTo.both {b x : Nat} {B B' : Bk} {X X' : PEng} {w w1 w2 : World} {fb fx : List Nat} (h : KAt b x B X w fb fx) (h1 : ATo (PEngA x X') fx w w1) (h2 : ATo (BkA b B') fb w1 w2) : KTo b x B' X' (fb ++ fx) w w2 := by
  obtain ⟨nb, nx, dis, lb, lx⟩ := h.parts
  obtain ⟨fx', a1, n1, s1, r1⟩ := h1
  obtain ⟨fb', a2, n2, s2, r2⟩ := h2
  have hsz := r1.size
  have lx' := PEngA.within _ _ a1
  have d1 : ∀ k ∈ fx', k ∉ fb := fun k hk hb => by
    rcases s1 k hk with h | h
    · exact dis k hb h
    · have := lb k hb; omega
  refine ⟨fb', fx', ⟨a2, PEngA.framed _ _ a1 r2 d1, ?_⟩, ?_, ?_⟩
  · rw [List.nodup_append]
    refine ⟨n2, n1, ?_⟩
    rintro a ha c hc rfl
    rcases s2 a ha with h | h
    · exact d1 a hc h
    · have := lx' a hc; omega
  · intro y hy
    rcases List.mem_append.mp hy with hy | hy
    · rcases s2 y hy with h | h
      · exact .inl (by simp [h])
      · exact .inr (by omega)
    · rcases s1 y hy with h | h
      · exact .inl (by simp [h])
      · exact .inr h
  · exact (r1.mono (fun k hk => .inl (by simp [hk]))).trans (r2.mono (fun k hk => .inl (by simp [hk])))
/-- The book behind the engine's call. -/
theorem KAt.bookAt {b x : Nat} {B : Bk} {X X' : PEng} {w w1 : World} {fb fx : List Nat} (h : KAt b x B X w fb fx) (h1 : ATo (PEngA x X') fx w w1) : BkA b B w1 fb := by
  obtain ⟨_, _, _, _, r⟩ := h1
  exact BkA.framed _ _ h.book r (fun k hk => h.parts.2.2.1 k hk)

end Go.Proofs.Ythlhbjnkohinmaa
