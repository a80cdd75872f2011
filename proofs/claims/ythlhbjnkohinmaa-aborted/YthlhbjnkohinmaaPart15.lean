import Derived.Test.YthlhbjnkohinmaaPart05
import Derived.Test.YthlhbjnkohinmaaPart14
import Derived.Test.YthlhbjnkohinmaaPmem
import Derived.Test.YthlhbjnkohinmaaNewP
import Derived.Test.YthlhbjnkohinmaaPart01
/- The program's engine in memory, with its sessions' marks and its rules. -/
namespace Go.Proofs.Ythlhbjnkohinmaa
open Go.RowKit

/-- What is said holds wherever some blocks are as they are. -/
def StillA (Φ : World → Prop) : Asn := fun w f => (∀ b ∈ f, b < w.heap.size) ∧ ∀ w' : World, (∀ b ∈ f, w'.heap[b]? = w.heap[b]?) → Φ w'
theorem StillA.framed (Φ : World → Prop) : Framed (StillA Φ) := by
  rintro S w w' f ⟨h1, h2⟩ hf hs
  refine ⟨fun b hb => Nat.lt_of_lt_of_le (h1 b hb) hf.size, fun w2 h => h2 w2 (fun b hb => (h b hb).trans (hf.block b (h1 b hb) (hs b hb)))⟩
theorem StillA.within (Φ : World → Prop) : Within (StillA Φ) := fun h g hg => h.1 g hg
theorem StillA.now {Φ : World → Prop} {w : World} {f : List Nat} (h : StillA Φ w f) : Φ w := h.2 w (fun _ _ => rfl)
/-- The rules of the program's engine, never written again. -/
def PRul (r : Src) : Asn := StillA fun w => RulesOwn w 0 r.2.1 r.1.1 r.2.2

/-- The blocks of the marks. -/
def mksL (X : PEng) : List Nat := (List.range 8).filterMap fun k => (X.ses k).mks
theorem mksL_mem {X : PEng} {g : Nat} : g ∈ mksL X ↔ ∃ k, k < 8 ∧ (X.ses k).mks = some g := by
  unfold mksL
  rw [List.mem_filterMap]
  constructor
  · rintro ⟨k, hk, h⟩
    exact ⟨k, by simpa using hk, h⟩
  · rintro ⟨k, hk, h⟩
    exact ⟨k, by simpa using hk, h⟩
theorem MkAt.fr {m : Option Nat} {fm : Nat → Option Int} {S : List Nat} {w w' : World} (h : MkAt m fm w) (hf : Fr S w w') (hs : ∀ g, m = some g → g ∉ S) : MkAt m fm w' := by
  cases m with
  | none => exact h
  | some g =>
    obtain ⟨Z, h1, h2⟩ := h
    exact ⟨Z, (hf.block g (lt_of_block h1) (hs g rfl)).trans h1, h2⟩
theorem MkAt.lt {g : Nat} {fm : Nat → Option Int} {w : World} (h : MkAt (some g) fm w) : g < w.heap.size := by
  obtain ⟨Z, h1, _⟩ := h
  exact lt_of_block h1
def MarksA (X : PEng) (F : Mks) : Asn := fun w f => (∀ k, k < 8 → MkAt (X.ses k).mks (F k) w) ∧ f = mksL X
theorem MarksA.framed (X : PEng) (F : Mks) : Framed (MarksA X F) := by
  rintro S w w' f ⟨h1, rfl⟩ hf hs
  exact ⟨fun k hk => (h1 k hk).fr hf (fun g hg => hs g (mksL_mem.mpr ⟨k, hk, hg⟩)), rfl⟩
theorem MarksA.within (X : PEng) (F : Mks) : Within (MarksA X F) := by
  rintro w f ⟨h1, rfl⟩ g hg
  obtain ⟨k, hk, e⟩ := mksL_mem.mp hg
  have := h1 k hk
  rw [e] at this
  exact this.lt

/-- The engine, its marks, its rules. -/
def PAll (x : Nat) (X : PEng) (F : Mks) : Asn := Star (PEngA x X) (Star (MarksA X F) (PRul X.src))
theorem PAll.framed (x : Nat) (X : PEng) (F : Mks) : Framed (PAll x X F) := Star.framed (PEngA.framed _ _) (Star.framed (MarksA.framed _ _) (StillA.framed _))
theorem PAll.within (x : Nat) (X : PEng) (F : Mks) : Within (PAll x X F) := Star.within (PEngA.within _ _) (Star.within (MarksA.within _ _) (StillA.within _))
/-- The same, wherever the marks lie. -/
def PEngE (x : Nat) (X : PEng) (F : Mks) : Asn := fun w f => ∃ X0, PAll x X0 F w f ∧ X0.plain = X
theorem PEngE.framed (x : Nat) (X : PEng) (F : Mks) : Framed (PEngE x X F) := by
  rintro S w w' f ⟨X0, h, e⟩ hf hs
  exact ⟨X0, PAll.framed _ _ _ h hf hs, e⟩
theorem PEngE.within (x : Nat) (X : PEng) (F : Mks) : Within (PEngE x X F) := by
  rintro w f ⟨X0, h, e⟩
  exact PAll.within _ _ _ h

theorem filterMap_sub {α β : Type} {f g : α → Option β} : ∀ {l : List α}, (∀ a ∈ l, g a = f a ∨ g a = none) → (l.filterMap g).Sublist (l.filterMap f)
  | [], _ => List.Sublist.refl _
  | a :: l, h => by
    have ih := filterMap_sub (f := f) (g := g) (l := l) (fun b hb => h b (by simp [hb]))
    rcases h a (by simp) with e | e
    · rw [List.filterMap_cons, List.filterMap_cons, e]
      cases f a with
      | none => exact ih
      | some b => exact ih.cons_cons b
    · rw [List.filterMap_cons, List.filterMap_cons, e]
      cases f a with
      | none => exact ih
      | some b => exact ih.cons b
theorem PAll.open {x : Nat} {X : PEng} {F : Mks} {w : World} {f : List Nat} (h : PAll x X F w f) (hn : f.Nodup) :
    ∃ f0, PEngA x X w f0 ∧ f0.Nodup ∧ (∀ y ∈ f0, y ∈ f) ∧ ∀ X' w', MksTo X X' → X'.src = X.src → ATo (PEngA x X') f0 w w' → ATo (PAll x X' (nextF X X' F)) f w w' := by
  have hwi := PAll.within _ _ _ h
  obtain ⟨f0, f1, h0, ⟨f2, f3, ⟨h2, rfl⟩, h3, rfl⟩, rfl⟩ := h
  rw [List.nodup_append] at hn
  obtain ⟨n0, n1, d01⟩ := hn
  rw [List.nodup_append] at n1
  obtain ⟨n2, n3, d23⟩ := n1
  refine ⟨f0, h0, n0, fun y hy => List.mem_append_left _ hy, fun X' w' hm hs ht => ?_⟩
  obtain ⟨f0', a0, n0', s0, r0⟩ := ht
  have hsub : (mksL X').Sublist (mksL X) := filterMap_sub (fun k hk => by
    have hk8 : k < 8 := by simpa using hk
    by_cases e : (X'.ses k).num = (X.ses k).num
    · exact .inl ((hm k hk8).1 e)
    · exact .inr ((hm k hk8).2 e))
  have hin : ∀ y ∈ mksL X' ++ f3, y ∈ mksL X ++ f3 := fun y hy => by
    rcases List.mem_append.mp hy with hy | hy
    · exact List.mem_append_left _ (hsub.subset hy)
    · exact List.mem_append_right _ hy
  refine ⟨f0' ++ (mksL X' ++ f3), ⟨f0', _, a0, ⟨_, f3, ⟨fun k hk => ?_, rfl⟩, ?_, rfl⟩, rfl⟩, ?_, ?_, ?_⟩
  · unfold nextF
    by_cases e : (X'.ses k).num = (X.ses k).num
    · rw [if_pos e, (hm k hk).1 e]
      exact (h2 k hk).fr r0 (fun g hg hf => d01 g hf g (List.mem_append_left _ (mksL_mem.mpr ⟨k, hk, hg⟩)) rfl)
    · rw [if_neg e, (hm k hk).2 e]
      intro p _
      rfl
  · rw [hs]
    exact StillA.framed _ h3 r0 (fun g hg hf => d01 g hf g (List.mem_append_right _ hg) rfl)
  · rw [List.nodup_append]
    refine ⟨n0', ?_, ?_⟩
    · rw [List.nodup_append]
      exact ⟨n2.sublist hsub, n3, fun a ha b hb => d23 a (hsub.subset ha) b hb⟩
    · intro a ha b hb e
      subst e
      have hb' := hin a hb
      rcases s0 a ha with h | h
      · exact d01 a h a hb' rfl
      · have := hwi a (List.mem_append_right _ hb')
        omega
  · intro y hy
    rcases List.mem_append.mp hy with hy | hy
    · rcases s0 y hy with h | h
      · exact .inl (List.mem_append_left _ h)
      · exact .inr h
    · exact .inl (List.mem_append_right _ (hin y hy))
  · exact r0.mono (fun y hy => .inl (List.mem_append_left _ hy))

/-- A call, wherever the marks lie: Y is what it does to the engine. -/
theorem PEngE.call {x : Nat} {X X' : PEng} {F : Mks} {w : World} {f : List Nat} {fn : Nat} {args : Array Value} {v : Value} (Y : PEng → PEng) (h : PEngE x X F w f) (hn : f.Nodup)
    (hY : ∀ X0, X0.plain = X → (Y X0).plain = X' ∧ (Y X0).src = X0.src ∧ MksTo X0 (Y X0))
    (c : ∀ X0 f0, X0.plain = X → PEngA x X0 w f0 → f0.Nodup → Calls Try.prog fn args w fun e w' => e = .returned v ∧ ATo (PEngA x (Y X0)) f0 w w') :
    Calls Try.prog fn args w fun e w' => e = .returned v ∧ ATo (PEngE x X' (nextF X X' F)) f w w' := by
  obtain ⟨X0, h0, e0⟩ := h
  obtain ⟨p1, p2, p3⟩ := hY X0 e0
  obtain ⟨f0, a0, nf0, _, hcl⟩ := h0.open hn
  refine (c X0 f0 e0 a0 nf0).mono ?_
  rintro e w' ⟨rfl, ht⟩
  refine ⟨rfl, ?_⟩
  obtain ⟨f', a, n, s, r⟩ := hcl _ _ p3 p2 ht
  subst e0
  subst p1
  exact ⟨f', ⟨_, a, rfl⟩, n, s, r⟩
/-- A call that only reads. -/
theorem PEngE.see {x : Nat} {X : PEng} {F : Mks} {w : World} {f : List Nat} {fn : Nat} {args : Array Value} {v : Value} (h : PEngE x X F w f) (hn : f.Nodup)
    (c : ∀ X0 f0, X0.plain = X → PAll x X0 F w f → PEngA x X0 w f0 → Calls Try.prog fn args w fun e w' => e = .returned v ∧ Fr [] w w') :
    Calls Try.prog fn args w fun e w' => e = .returned v ∧ ATo (PEngE x X F) f w w' := by
  obtain ⟨X0, h0, e0⟩ := h
  obtain ⟨f0, a0, _, _, _⟩ := h0.open hn
  refine (c X0 f0 e0 h0 a0).mono ?_
  rintro e w' ⟨rfl, r⟩
  exact ⟨rfl, f, PEngE.framed _ _ _ ⟨X0, h0, e0⟩ r (by simp), hn, fun _ hy => .inl hy, r.mono (fun k hk => by cases hk)⟩

end Go.Proofs.Ythlhbjnkohinmaa

/- The program's engine, as New makes it. -/
namespace Go.Proofs.Ythlhbjnkohinmaa
open Go.RowKit

theorem flatm_len {α : Type} {m : Nat} {f : Nat → List α} (hf : ∀ c, (f c).length = m) : ∀ n, ((List.range n).flatMap f).length = n * m
  | 0 => by simp
  | n + 1 => by rw [List.range_succ, List.flatMap_append, List.length_append, flatm_len hf n]; simp [hf, Nat.add_mul]
theorem flatm_at {α : Type} {m : Nat} {f : Nat → List α} (hf : ∀ c, (f c).length = m) {c j : Nat} (hj : j < m) : ∀ n, c < n → ((List.range n).flatMap f)[c * m + j]? = (f c)[j]?
  | 0, h => by omega
  | n + 1, h => by
    rw [List.range_succ, List.flatMap_append]
    by_cases e : c = n
    · subst e
      rw [List.getElem?_append_right (by rw [flatm_len hf]; omega), flatm_len hf]
      simp
    · have h1 : c * m + j < n * m := by
        have : (c + 1) * m ≤ n * m := Nat.mul_le_mul_right m (by omega)
        rw [Nat.add_mul] at this
        omega
      rw [List.getElem?_append_left (by rw [flatm_len hf]; exact h1)]
      exact flatm_at hf hj n (by omega)
/-- An engine that was just made. -/
def X0 (r : Src) : PEng := ⟨r, 0, fun _ => .zero, 0, fun _ => 0, fun _ => []⟩
def kv0 : Nat → Value := fun _ => .slice none 0 0
def zeroEng : List Value := [.slice none 0 0, .int .i64 0, .int .i64 0] ++ ((List.range 8).flatMap (fun _ => sesCells .zero) ++ (.int .i64 0 :: (List.range 60).flatMap (fun _ => [.int .i64 0, .slice none 0 0])))
theorem zero_eng : Try.zeroCells93.toList = zeroEng := by kernel_rfl
theorem zeroEng_ses {k j : Nat} (hk : k < 8) (hj : j < 244) : zeroEng[3 + k * 244 + j]? = (sesCells .zero)[j]? := by
  unfold zeroEng
  rw [List.getElem?_append_right (by simp; omega), List.getElem?_append_left (by rw [flatm_len (fun _ => sesCells_len _)]; simp; omega)]
  have := flatm_at (f := fun _ => sesCells .zero) (m := 244) (fun _ => sesCells_len _) (c := k) (j := j) hj 8 hk
  rw [← this]
  congr 1
  simp
  omega
theorem zeroEng_latest : zeroEng[1955]? = some (.int .i64 0) := by
  unfold zeroEng
  rw [List.getElem?_append_right (by simp), List.getElem?_append_right (by rw [flatm_len (fun _ => sesCells_len _)]; simp), flatm_len (fun _ => sesCells_len _)]
  rfl
theorem zeroEng_hist {c j : Nat} (hc : c < 60) (hj : j < 2) : zeroEng[1955 + 1 + c * 2 + j]? = ([.int .i64 0, .slice none 0 0] : List Value)[j]? := by
  unfold zeroEng
  rw [List.getElem?_append_right (by simp; omega), List.getElem?_append_right (by rw [flatm_len (fun _ => sesCells_len _)]; simp; omega), flatm_len (fun _ => sesCells_len _)]
  have := flatm_at (f := fun _ => ([.int .i64 0, .slice none 0 0] : List Value)) (m := 2) (fun _ => rfl) (c := c) (j := j) hj 60 hc
  rw [← this, show 1955 + 1 + c * 2 + j - [Value.slice none 0 0, Value.int .i64 0, Value.int .i64 0].length - 8 * 244 = c * 2 + j + 1 by simp; omega]
  rfl
theorem each_zero (r : Src) (w : World) : ∀ l : List Nat, EachA HistA (l.map kv0) (l.map (X0 r).hist) w []
  | [] => rfl
  | _ :: l => ⟨[], [], RowA.nil _ _ _, each_zero r w l, rfl⟩
theorem fresh_prog {w : World} {g : Nat} {v : Value} {u : Int} (r : ByteArray × List (Nat × List Nat × List Nat)) (hb : w.heap[g]? = some (.cells ((Try.zeroCells93.setIfInBounds 0 v).setIfInBounds 1 (.int .i64 u)) 93 (0, 0))) : PEngA g (X0 ((v, u), r)) w [g] := by
  have hc : ∀ i, 2 ≤ i → w.cell? ⟨g, i, none⟩ = zeroEng[i]? := by
    intro i hi
    rw [cell_of_row _ _ _ _ _ _ hb, Array.getElem?_setIfInBounds_ne (by omega), Array.getElem?_setIfInBounds_ne (by omega), ← zero_eng]
    simp
  have hz : 1 < Try.zeroCells93.size := by
    have := congrArg List.length zero_eng
    simp only [Array.length_toList] at this
    rw [this]
    simp [zeroEng]
  refine ⟨kv0, ⟨⟨_, hb⟩, ?_, ?_, ?_, ?_, ?_⟩, [], ?_, rfl⟩
  · rw [cell_of_row _ _ _ _ _ _ hb, Array.getElem?_setIfInBounds_ne (by omega), Array.getElem?_setIfInBounds_self_of_lt (by omega)]
    rfl
  · rw [cell_of_row _ _ _ _ _ _ hb, Array.getElem?_setIfInBounds_self_of_lt (by simp)]
    rfl
  · rw [hc 2 (by omega)]; rfl
  · intro k hk
    refine .of (fun j v hv => ?_) ok_zero
    have hj : j < 244 := by
      have := (List.getElem?_eq_some_iff.1 hv).1
      rw [sesCells_len] at this
      exact this
    rw [hc _ (by omega), zeroEng_ses hk hj]
    exact hv
  · refine ⟨?_, fun c hcl => ?_, fun c hcl => ?_⟩
    · rw [hc 1955 (by omega)]; exact zeroEng_latest
    · rw [hc _ (by omega)]; exact zeroEng_hist (j := 0) hcl (by omega)
    · rw [hc _ (by omega)]; exact zeroEng_hist (j := 1) hcl (by omega)
  · exact each_zero _ w _

end Go.Proofs.Ythlhbjnkohinmaa

/- Two texts of rules whose reading is known. -/
namespace Go.Proofs.Ythlhbjnkohinmaa
open Go.RowKit

/-- The text of one rule: if a has y at x, b gets y at x. -/
def s0 : ByteArray := ⟨#[53, 58, 97, 120, 121, 62, 43, 98, 120, 121, 59]⟩
theorem s0_size : s0.size = 11 := rfl

theorem cds0 {L : List Nat} {j : Nat} {ok : Bool} (h : Cds s0 2 L j ok) : L = [2] ∧ j = 6 ∧ ok = true := by
  have e1 : cdOk s0 2 = true := by decide +kernel
  have e2 : cdLen s0 2 = 3 := by decide +kernel
  have e3 : bt s0 (2 + 3) = 62 := by decide +kernel
  refine h (fun i L j ok => i = 2 → L = [2] ∧ j = 6 ∧ ok = true) ⟨?_, ?_, ?_, ?_, ?_⟩ rfl
  · rintro i hi rfl; exact absurd (by rw [s0_size]; omega) hi
  · rintro i _ hb rfl; rw [e1] at hb; cases hb
  · rintro i _ _ _ rfl; rw [e2]; exact ⟨rfl, rfl, rfl⟩
  · rintro i _ _ h1 _ rfl; rw [e2] at h1; exact absurd e3 h1
  · rintro i L j ok _ _ h1 _ rfl; rw [e2, e3] at h1; cases h1
theorem acs0 {L : List Nat} {j : Nat} {ok : Bool} (h : Acs s0 6 L j ok) : L = [6] ∧ j = 11 ∧ ok = true := by
  have e1 : acOk s0 6 = true := by decide +kernel
  have e2 : acLen s0 6 = 4 := by decide +kernel
  have e3 : bt s0 (6 + 4) = 59 := by decide +kernel
  refine h (fun i L j ok => i = 6 → L = [6] ∧ j = 11 ∧ ok = true) ⟨?_, ?_, ?_, ?_, ?_⟩ rfl
  · rintro i hi rfl; exact absurd (by rw [s0_size]; omega) hi
  · rintro i _ hb rfl; rw [e1] at hb; cases hb
  · rintro i _ _ _ rfl; rw [e2]; exact ⟨rfl, rfl, rfl⟩
  · rintro i _ _ h1 _ rfl; rw [e2] at h1; exact absurd e3 h1
  · rintro i L j ok _ _ h1 _ rfl; rw [e2, e3] at h1; cases h1
theorem rul0 {L K : List Nat} {j : Nat} {ok : Bool} (h : Rul s0 0 L K j ok) : L = [2] ∧ K = [6] ∧ j = 11 ∧ ok = true := by
  have e1 : digB (bt s0 0) = true := by decide +kernel
  have e2 : bt s0 (0 + 1) = 58 := by decide +kernel
  rcases h with ⟨h, _⟩ | ⟨_, h, _⟩ | ⟨_, _, h, _, _⟩ | ⟨j1, _, _, h1, h2⟩
  · rw [e1] at h; cases h
  · exact absurd e2 h
  · have := (cds0 h).2.2; cases this
  · obtain ⟨rfl, rfl, _⟩ := cds0 h1
    obtain ⟨rfl, rfl, rfl⟩ := acs0 h2
    exact ⟨rfl, rfl, rfl, rfl⟩
theorem rls0 {R : List RuleP} {j : Nat} {ok : Bool} (h : Rls s0 0 R j ok) : R = [(0, [2], [6])] ∧ ok = true := by
  have := h (fun i R j ok => (i = 0 → R = [(0, [2], [6])] ∧ ok = true) ∧ (i = 11 → R = [] ∧ ok = true)) ⟨?_, ?_, ?_⟩
  · exact this.1 rfl
  · intro i hi
    rw [s0_size] at hi
    exact ⟨fun e => by omega, fun _ => ⟨rfl, rfl⟩⟩
  · intro i L K j hi hr
    rw [s0_size] at hi
    refine ⟨fun e => ?_, fun e => by omega⟩
    subst e
    have := (rul0 hr).2.2.2
    cases this
  · intro i L K j R j' ok hi hr hm
    rw [s0_size] at hi
    refine ⟨fun e => ?_, fun e => by omega⟩
    subst e
    obtain ⟨rfl, rfl, rfl, _⟩ := rul0 hr
    obtain ⟨rfl, rfl⟩ := hm.2 rfl
    exact ⟨rfl, rfl⟩
theorem read0 {x p : Int} {o : Option (List RuleP)} (h : ReadAns s0 x p o) : x = 0 := by
  have e1 : overB s0 [2] [6] = false := by decide +kernel
  have e2 : unbB s0 [2] [6] = false := by decide +kernel
  rcases h with ⟨h, _⟩ | ⟨R, j, _, h, _⟩ | ⟨R, j, m, _, h, h2, _⟩ | ⟨R, j, m, _, h, _, h2, _⟩ | ⟨R, j, _, _, _, _, h, _⟩
  · rw [s0_size] at h; omega
  · have := (rls0 h).2; cases this
  · obtain ⟨rfl, _⟩ := rls0 h
    obtain ⟨hm, ⟨hk, hb⟩, _⟩ := h2
    have : m = 0 := by simpa using hm
    subst this
    simp [e1] at hb
  · obtain ⟨rfl, _⟩ := rls0 h
    obtain ⟨hm, ⟨hk, hb⟩, _⟩ := h2
    have : m = 0 := by simpa using hm
    subst this
    simp [e2] at hb
  · exact h

/-- The empty text. -/
theorem rlsE {R : List RuleP} {j : Nat} {ok : Bool} (h : Rls ByteArray.empty 0 R j ok) : R = [] ∧ ok = true := by
  have hz : ByteArray.empty.size = 0 := rfl
  refine h (fun i R j ok => R = [] ∧ ok = true) ⟨?_, ?_, ?_⟩
  · intro i _; exact ⟨rfl, rfl⟩
  · intro i L K j hi _; rw [hz] at hi; omega
  · intro i L K j R j' ok hi _ _; rw [hz] at hi; omega
theorem readE {x p : Int} {o : Option (List RuleP)} (h : ReadAns ByteArray.empty x p o) : x = 0 := by
  rcases h with ⟨h, _⟩ | ⟨R, j, _, h, _⟩ | ⟨R, j, m, _, h, h2, _⟩ | ⟨R, j, m, _, h, _, h2, _⟩ | ⟨R, j, _, _, _, _, h, _⟩
  · have hz : ByteArray.empty.size = 0 := rfl
    omega
  · have := (rlsE h).2; cases this
  · obtain ⟨rfl, _⟩ := rlsE h
    exact absurd h2.1 (by simp)
  · obtain ⟨rfl, _⟩ := rlsE h
    exact absurd h2.1 (by simp)
  · exact h

end Go.Proofs.Ythlhbjnkohinmaa

/- The program's calls, each with the blocks that its engine takes. -/
namespace Go.Proofs.Ythlhbjnkohinmaa
open Go.RowKit

theorem popen_hist (X : PEng) : (popenF X).2.hist = X.hist := by unfold popenF; cases numberedP X 0 <;> rfl
theorem pput_hist (X : PEng) (n : Int) (s : ByteArray) : (pputF X n s).2.hist = X.hist := by
  unfold pputF
  cases findP X n with
  | none => rfl
  | some k => cases factB s <;> rfl
theorem pclear_hist (X : PEng) (n : Int) (s : ByteArray) : (pclearF X n s).2.hist = X.hist := by
  unfold pclearF
  cases findP X n with
  | none => rfl
  | some k => cases cellB s <;> rfl
theorem pabort_hist (X : PEng) (n : Int) : (pabortF X n).2.hist = X.hist := by
  unfold pabortF
  cases findP X n <;> rfl

theorem popen_to (x : Nat) (X : PEng) (f : List Nat) (w : World) (h : PEngA x X w f) (hn : f.Nodup) (ho : 0 ≤ X.opened ∧ X.opened < 9223372036854775807) :
    Calls Try.prog 13 #[.pointer (some ⟨x, 0, none⟩)] w fun e w' => e = .returned (.tuple #[.int .i64 (popenF X).1.1, .int .i64 (popenF X).1.2]) ∧ ATo (PEngA x (popenF X).2) f w w' := by
  obtain ⟨kv, hk⟩ := h
  refine (popen_any x X kv w hk.1 ho).mono ?_
  rintro e w' ⟨rfl, hp⟩
  exact ⟨rfl, hp.to hk hn (popen_hist X)⟩
theorem pput_to (x : Nat) (X : PEng) (f : List Nat) (n : Int) (s : ByteArray) (w : World) (h : PEngA x X w f) (hn : f.Nodup) (hs63 : s.size < 9223372036854775808) (hm : ∀ k, findP X n = some k → (X.ses k).more) :
    Calls Try.prog 34 #[.pointer (some ⟨x, 0, none⟩), .int .i64 n, .string s] w fun e w' => e = .returned (.int .i64 (pputF X n s).1) ∧ ATo (PEngA x (pputF X n s).2) f w w' := by
  obtain ⟨kv, hk⟩ := h
  refine (pput_any x X kv n s w hk.1 hs63 hm).mono ?_
  rintro e w' ⟨rfl, hp⟩
  exact ⟨rfl, hp.to hk hn (pput_hist X n s)⟩
theorem pclear_to (x : Nat) (X : PEng) (f : List Nat) (n : Int) (s : ByteArray) (w : World) (h : PEngA x X w f) (hn : f.Nodup) (hs63 : s.size < 9223372036854775808) (hm : ∀ k, findP X n = some k → (X.ses k).more) :
    Calls Try.prog 35 #[.pointer (some ⟨x, 0, none⟩), .int .i64 n, .string s] w fun e w' => e = .returned (.int .i64 (pclearF X n s).1) ∧ ATo (PEngA x (pclearF X n s).2) f w w' := by
  obtain ⟨kv, hk⟩ := h
  refine (pclear_any x X kv n s w hk.1 hs63 hm).mono ?_
  rintro e w' ⟨rfl, hp⟩
  exact ⟨rfl, hp.to hk hn (pclear_hist X n s)⟩
theorem pabort_to (x : Nat) (X : PEng) (f : List Nat) (n : Int) (w : World) (h : PEngA x X w f) (hn : f.Nodup) :
    Calls Try.prog 23 #[.pointer (some ⟨x, 0, none⟩), .int .i64 n] w fun e w' => e = .returned (.int .i64 (pabortF X n).1) ∧ ATo (PEngA x (pabortF X n).2) f w w' := by
  obtain ⟨kv, hk⟩ := h
  refine (pabort_any x X kv n w hk.1).mono ?_
  rintro e w' ⟨rfl, hp⟩
  exact ⟨rfl, hp.to hk hn (pabort_hist X n)⟩
theorem pview_to (x : Nat) (X : PEng) (f : List Nat) (n : Int) (w : World) (h : PEngA x X w f) (hl : ∀ c, c < 60 → (X.hist c).length ≤ 9223372036854775807) (hd : ∀ k, findP X n = some k → Digs (seenP X k)) :
    Calls Try.prog 14 #[.pointer (some ⟨x, 0, none⟩), .int .i64 n] w fun e w' => e = .returned (.tuple #[.string (pviewF X n).1, .int .i64 (pviewF X n).2]) ∧ Fr [] w w' := by
  obtain ⟨kv, hk⟩ := h
  refine (pview_any x X kv n w hk.1 hk.rows hl hd).mono ?_
  rintro e w' ⟨rfl, hg⟩
  exact ⟨rfl, fr_none hg⟩

/-- New of a text that is read, and of a room that is one: an engine. -/
theorem pnew_to (s : ByteArray) (room : Int) (w : World) (hs : s.size ≤ maxLen) (hr : ∀ x p o, ReadAns s x p o → x = 0) (h1 : 1 ≤ room) (h2 : room ≤ 999) :
    Calls Try.prog 27 #[.string s, .int .i64 room] w fun e w' => ∃ g, e = .returned (.tuple #[.pointer (some ⟨g, 0, none⟩), .int .i64 0, .int .i64 0]) ∧ w.heap.size ≤ g ∧ (∃ r, PEngA g (X0 r) w' [g] ∧ r.1.2 = room) ∧ Fr [] w w' := by
  refine (new_any s room w hs).mono ?_
  rintro e w1 ⟨x, p, o, ha, hg1, hcase⟩
  have hx := hr x p o ha
  rcases hcase with ⟨x1, x4, rfl⟩ | ⟨rfl, hroom, rfl⟩ | ⟨rfl, r1, r2, g, R, v, rfl, rfl, hgw, hgb, hro⟩
  · omega
  · omega
  · exact ⟨g, rfl, hgw, ⟨_, fresh_prog (s, R) hgb, rfl⟩, fr_none hg1⟩

/-- Values that can be seen are digits: by looking at them. -/
theorem Digs.look {g : Nat → Option Int} (h : ((List.range 60).all fun c => match g c with | some v => decide (0 ≤ v ∧ v ≤ 9) | none => true) = true) : Digs g := by
  intro c v hc hv
  rw [List.all_eq_true] at h
  have := h c (by simpa using hc)
  rw [hv] at this
  simpa using this
theorem hist_look {X : PEng} (h : ((List.range 60).all fun c => decide ((X.hist c).length ≤ 99)) = true) : ∀ c, c < 60 → (X.hist c).length ≤ 99 := by
  intro c hc
  rw [List.all_eq_true] at h
  simpa using h c (by simpa using hc)
theorem fr_new {f : List Nat} {w w1 w2 : World} (h : Fr [] w w1) (k : Fr f w1 w2) (hf : ∀ x ∈ f, w.heap.size ≤ x) : Fr [] w w2 := fr_then h k (fun x hx => .inr (hf x hx))

/-! The engine of works, call by call. -/
def a37 : ByteArray := ⟨#[97, 51, 55]⟩
def W1 (r : Src) : PEng := (popenF (X0 r)).2
def W2 (r : Src) : PEng := (pputF (W1 r) 1 a37).2
def W3 (r : Src) : PEng := (pcommitF (W2 r) 1).2
def W4 (r : Src) : PEng := (popenF (W3 r)).2
theorem w_open (r : Src) : (popenF (X0 r)).1 = (1, 0) := by kernel_rfl
theorem w_put (r : Src) : (pputF (W1 r) 1 a37).1 = 0 := by kernel_rfl
theorem w_view (r : Src) : pviewF (W2 r) 1 = (a37, 0) := by kernel_rfl
theorem w_commit (r : Src) : (pcommitF (W2 r) 1).1 = (1, 0) := by kernel_rfl
theorem w_open2 (r : Src) : (popenF (W3 r)).1 = (2, 0) := by kernel_rfl
theorem w_three (r : Src) : (W3 r).opened = 1 := by kernel_rfl
theorem w_view2 (r : Src) : pviewF (W4 r) 2 = (a37, 0) := by kernel_rfl
theorem w_digs (r : Src) : ∀ k, findP (W2 r) 1 = some k → Digs (seenP (W2 r) k) := by
  have e : findP (W2 r) 1 = some 0 := by kernel_rfl
  intro k hk
  rw [e] at hk
  cases hk
  exact .look (by kernel_rfl)
theorem w_digs2 (r : Src) : ∀ k, findP (W4 r) 2 = some k → Digs (seenP (W4 r) k) := by
  have e : findP (W4 r) 2 = some 0 := by kernel_rfl
  intro k hk
  rw [e] at hk
  cases hk
  exact .look (by kernel_rfl)
theorem w_hist (r : Src) : ∀ c, c < 60 → ((W2 r).hist c).length ≤ 99 := hist_look (by kernel_rfl)
theorem w_room (r : Src) (h : r.1.2 = 9) : (∀ k, findP (W2 r) 1 = some k → ((keptN (W2 r) 60 + writN ((W2 r).ses k) 60 : Nat) : Int) ≤ (W2 r).room) ∧ (W2 r).room ≤ 999 := by
  have e : findP (W2 r) 1 = some 0 := by kernel_rfl
  have h1 : (W2 r).room = 9 := h
  have h2 : keptN (W2 r) 60 + writN ((W2 r).ses 0) 60 = 1 := by kernel_rfl
  refine ⟨fun k hk => ?_, by omega⟩
  rw [e] at hk
  cases hk
  rw [h2, h1]
  decide
theorem w_hist4 (r : Src) : ∀ c, c < 60 → ((W4 r).hist c).length ≤ 99 := hist_look (by kernel_rfl)

/-! No count grows past the steps. -/
structure Few (i : Nat) (X : PEng) : Prop where
  latest : 0 ≤ X.latest ∧ X.latest ≤ i
  ses : ∀ k, k < 8 → 0 ≤ (X.ses k).snap ∧ (X.ses k).snap ≤ i ∧ (X.ses k).made ≤ i
theorem Few.mono {i j : Nat} {X : PEng} (h : Few i X) (hij : i ≤ j) : Few j X := ⟨by have := h.latest; omega, fun k hk => by have := h.ses k hk; omega⟩
theorem Few.setSes {i : Nat} {X : PEng} (h : Few i X) (k : Nat) {S : PSes} (h1 : 0 ≤ S.snap ∧ S.snap ≤ i ∧ S.made ≤ i) : Few i (X.setSes k S) := by
  refine ⟨h.latest, fun j hj => ?_⟩
  show 0 ≤ (upd X.ses k S j).snap ∧ (upd X.ses k S j).snap ≤ i ∧ (upd X.ses k S j).made ≤ i
  by_cases e : j = k
  · subst e; rw [upd_same]; exact h1
  · rw [upd_ne _ _ _ e]; exact h.ses j hj
theorem Few.zero {i : Nat} {X : PEng} (h : Few i X) (k : Nat) : Few i (X.setSes k .zero) := h.setSes k ⟨Int.le_refl 0, by show (0 : Int) ≤ i; omega, by show (0 : Int) ≤ i; omega⟩
theorem findP_lt {X : PEng} {n : Int} {k : Nat} (h : findP X n = some k) : k < 8 := by
  unfold findP at h
  split at h
  · cases h
  · exact (numberedP_some h).1
theorem Few.write {i : Nat} {X : PEng} (h : Few i X) {k : Nat} (hk : k < 8) (c : Nat) (v : Option Int) : Few (i + 1) (X.setSes k ((X.ses k).put c v)) := by
  have := h.ses k hk
  refine (h.mono (Nat.le_succ i)).setSes k ⟨this.1, ?_, ?_⟩
  · show (X.ses k).snap ≤ ((i + 1 : Nat) : Int); omega
  · show (X.ses k).made + 1 ≤ ((i + 1 : Nat) : Int); omega
theorem Few.open {i : Nat} {X : PEng} (h : Few i X) : Few (i + 1) (popenF X).2 := by
  unfold popenF
  cases hf : numberedP X 0 with
  | none => exact h.mono (Nat.le_succ i)
  | some k =>
    have hl := h.latest
    have := (h.mono (Nat.le_succ i)).setSes k (S := .new (X.opened + 1) X.latest) ⟨hl.1, by show X.latest ≤ ((i + 1 : Nat) : Int); omega, by show (0 : Int) ≤ ((i + 1 : Nat) : Int); omega⟩
    exact ⟨this.latest, this.ses⟩
theorem Few.put {i : Nat} {X : PEng} (h : Few i X) (n : Int) (s : ByteArray) : Few (i + 1) (pputF X n s).2 := by
  unfold pputF
  cases hf : findP X n with
  | none => exact h.mono (Nat.le_succ i)
  | some k => cases factB s with
    | false => exact h.mono (Nat.le_succ i)
    | true => exact h.write (findP_lt hf) _ _
theorem Few.clear {i : Nat} {X : PEng} (h : Few i X) (n : Int) (s : ByteArray) : Few (i + 1) (pclearF X n s).2 := by
  unfold pclearF
  cases hf : findP X n with
  | none => exact h.mono (Nat.le_succ i)
  | some k => cases cellB s with
    | false => exact h.mono (Nat.le_succ i)
    | true => exact h.write (findP_lt hf) _ _
theorem Few.abort {i : Nat} {X : PEng} (h : Few i X) (n : Int) : Few (i + 1) (pabortF X n).2 := by
  unfold pabortF
  cases findP X n with
  | none => exact h.mono (Nat.le_succ i)
  | some k => exact (h.mono (Nat.le_succ i)).zero k
theorem Few.commit {i : Nat} {X : PEng} (h : Few i X) (n : Int) : Few (i + 1) (pcommitF X n).2 := by
  have hz := fun k => (h.mono (Nat.le_succ i)).zero k
  unfold pcommitF
  cases findP X n with
  | none => exact h.mono (Nat.le_succ i)
  | some k =>
    simp only []
    cases hasW (X.ses k) with
    | false => exact hz k
    | true =>
      cases clash X (X.ses k) with
      | true => exact hz k
      | false =>
        refine ⟨?_, (hz k).ses⟩
        show 0 ≤ X.latest + 1 ∧ X.latest + 1 ≤ ((i + 1 : Nat) : Int)
        have := h.latest
        omega
theorem Few.more {i : Nat} {X : PEng} (h : Few i X) (hi : i ≤ 4000000000000) {n : Int} {k : Nat} (hf : findP X n = some k) : (X.ses k).more := by
  have := h.ses k (findP_lt hf)
  unfold PSes.more
  omega
theorem few0 (r : Src) : Few 0 (X0 r) := ⟨⟨Int.le_refl 0, Int.le_refl 0⟩, fun _ _ => ⟨Int.le_refl 0, Int.le_refl 0, Int.le_refl 0⟩⟩
theorem w_few (r : Src) : Few 1 (W1 r) := (few0 r).open

end Go.Proofs.Ythlhbjnkohinmaa
