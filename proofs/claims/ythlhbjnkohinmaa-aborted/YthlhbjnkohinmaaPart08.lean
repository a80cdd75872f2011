import Derived.Test.YthlhbjnkohinmaaPeng
import Derived.Test.YthlhbjnkohinmaaPart07
import Derived.Deep.RegionHeld3
/- Two ways to put a list in order. -/
namespace Go.Proofs.Ythlhbjnkohinmaa

variable {α : Type}
/-- An element is put in front of the first that it comes ahead of. -/
def insF (lt : α → α → Bool) (x : α) : List α → List α
  | [] => [x]
  | y :: r => if lt x y then x :: y :: r else y :: insF lt x r
def isort (lt : α → α → Bool) (l : List α) : List α := l.foldl (fun out x => insF lt x out) []
/-- Two lists are merged. -/
def mrg (lt : α → α → Bool) : List α → List α → List α
  | [], B => B
  | a :: A, [] => a :: A
  | a :: A, b :: B => if lt b a then b :: mrg lt (a :: A) B else a :: mrg lt A (b :: B)
/-- What comes ahead, by weight and time. -/
structure Weak (lt : α → α → Bool) : Prop where
  trans : ∀ {a b c}, lt a b = true → lt b c = true → lt a c = true
  neg : ∀ {a b c}, lt a b = false → lt b c = false → lt a c = false
  irr : ∀ a, lt a a = false

theorem mrg_nil (lt : α → α → Bool) (A : List α) : mrg lt A [] = A := by cases A <;> simp [mrg]
theorem mrg_one (lt : α → α → Bool) (x : α) : ∀ A, mrg lt A [x] = insF lt x A
  | [] => by simp [mrg, insF]
  | a :: A => by
    rw [mrg, insF]
    by_cases h : lt x a = true
    · rw [if_pos h, if_pos h, mrg_nil]
    · rw [if_neg h, if_neg h, mrg_one lt x A]
theorem mrg_ins {lt : α → α → Bool} (hw : Weak lt) (x : α) : ∀ A B, mrg lt A (insF lt x B) = insF lt x (mrg lt A B)
  | [], B => by simp [mrg]
  | a :: A, [] => by rw [mrg_nil]; exact mrg_one lt x (a :: A)
  | a :: A, b :: B => by
    have i1 := mrg_ins hw x (a :: A) B
    have i2 := mrg_ins hw x A (b :: B)
    have e1 : insF lt x (b :: B) = if lt x b then x :: b :: B else b :: insF lt x B := rfl
    have e2 : mrg lt (a :: A) (b :: B) = if lt b a then b :: mrg lt (a :: A) B else a :: mrg lt A (b :: B) := by rw [mrg]
    by_cases h1 : lt b a = true
    · rw [e2, if_pos h1]
      by_cases h2 : lt x b = true
      · rw [e1, if_pos h2, insF, if_pos h2, mrg, if_pos (hw.trans h2 h1), e2, if_pos h1]
      · rw [e1, if_neg h2, insF, if_neg h2, mrg, if_pos h1, i1]
    · rw [e2, if_neg h1]
      by_cases h2 : lt x b = true
      · rw [e1, if_pos h2, insF]
        rw [mrg]
        by_cases h3 : lt x a = true
        · rw [if_pos h3, if_pos h3, e2, if_neg h1]
        · rw [if_neg h3, if_neg h3]
          rw [e1, if_pos h2] at i2
          rw [i2]
      · have h3 : ¬ lt x a = true := by
          have := hw.neg (a := x) (b := b) (c := a) (by simpa using h2) (by simpa using h1)
          simp [this]
        rw [e1, if_neg h2] at i2 ⊢
        rw [insF, if_neg h3, mrg, if_neg h1, i2]
theorem mrg_sorts {lt : α → α → Bool} (hw : Weak lt) (l1 l2 : List α) : mrg lt (isort lt l1) (isort lt l2) = isort lt (l1 ++ l2) := by
  have key : ∀ (n : Nat) (l2 : List α), l2.length = n → mrg lt (isort lt l1) (isort lt l2) = isort lt (l1 ++ l2) := by
    intro n
    induction n with
    | zero =>
      intro l2 h
      have : l2 = [] := List.length_eq_zero_iff.mp h
      subst this
      simp [isort, mrg_nil]
    | succ n ih =>
      intro l2 h
      rcases List.eq_nil_or_concat l2 with rfl | ⟨l, x, rfl⟩
      · simp at h
      · have hl : l.length = n := by simpa using h
        have e1 : isort lt (l.concat x) = insF lt x (isort lt l) := by simp [isort]
        have e2 : isort lt (l1 ++ l.concat x) = insF lt x (isort lt (l1 ++ l)) := by
          rw [List.concat_eq_append, ← List.append_assoc]
          simp [isort]
        rw [e1, e2, mrg_ins hw, ih l hl]
  exact key _ l2 rfl

/-- Nobody comes ahead of one in front of it. -/
def Sorted (lt : α → α → Bool) (l : List α) : Prop := l.Pairwise fun a b => lt b a = false
theorem insF_mem {lt : α → α → Bool} {x z : α} : ∀ {l : List α}, z ∈ insF lt x l ↔ z = x ∨ z ∈ l
  | [] => by simp [insF]
  | y :: r => by
    rw [insF]
    split
    · simp
    · simp [insF_mem (l := r)]
      constructor
      · rintro (h | h | h) <;> simp [h]
      · rintro (h | h | h) <;> simp [h]
theorem insF_sorted {lt : α → α → Bool} (hw : Weak lt) (x : α) : ∀ {l : List α}, Sorted lt l → Sorted lt (insF lt x l)
  | [], _ => by simp [insF, Sorted]
  | y :: r, h => by
    have h' := List.pairwise_cons.mp h
    rw [insF]
    by_cases e : lt x y = true
    · rw [if_pos e]
      refine List.pairwise_cons.mpr ⟨fun z hz => ?_, h⟩
      cases hzx : lt z x with
      | false => rfl
      | true =>
        have := hw.trans hzx e
        rcases List.mem_cons.mp hz with rfl | hz
        · rw [hw.irr] at this; cases this
        · rw [h'.1 z hz] at this; cases this
    · rw [if_neg e]
      refine List.pairwise_cons.mpr ⟨fun z hz => ?_, insF_sorted hw x h'.2⟩
      rcases insF_mem.mp hz with rfl | hz
      · simpa using e
      · exact h'.1 z hz
theorem insF_snoc {lt : α → α → Bool} (hw : Weak lt) (x y : α) : ∀ {l : List α}, (∀ o ∈ l, lt y o = false) → insF lt x (l ++ [y]) = if lt x y then insF lt x l ++ [y] else l ++ [y, x]
  | [], _ => by
    simp only [List.nil_append, insF]
    by_cases e : lt x y = true
    · rw [if_pos e, if_pos e]; rfl
    · rw [if_neg e, if_neg e]
  | o :: l, h => by
    have ih := insF_snoc hw x y (l := l) (fun z hz => h z (by simp [hz]))
    rw [List.cons_append, insF, ih]
    by_cases e : lt x y = true
    · rw [if_pos e, if_pos e, insF]
      split <;> simp
    · rw [if_neg e, if_neg e]
      have : lt x o = false := hw.neg (b := y) (by simpa using e) (h o (by simp))
      rw [if_neg (by simp [this])]
      rfl

/-- Where an element is put. -/
theorem insF_at {lt : α → α → Bool} (hw : Weak lt) (x : α) : ∀ (O : List α) (k : Nat), k ≤ O.length → Sorted lt O → (∀ b ∈ O.drop k, lt x b = true) → (k = 0 ∨ ∃ h : k - 1 < O.length, lt x O[k - 1] = false) → insF lt x O = O.take k ++ x :: O.drop k
  | [], k, hk, _, _, _ => by
    have : k = 0 := by simpa using hk
    subst this
    rfl
  | o :: r, 0, _, _, h1, _ => by
    have := h1 o (by simp)
    simp [insF, this]
  | o :: r, m + 1, hk, hs, h1, h2 => by
    have hs' := List.pairwise_cons.mp hs
    have hxo : lt x o = false := by
      rcases h2 with h | ⟨h, e⟩
      · omega
      · cases m with
        | zero => simpa using e
        | succ m =>
          have hm : m < r.length := by simp at h; omega
          have e' : lt x r[m] = false := by simpa using e
          exact hw.neg e' (hs'.1 r[m] (List.getElem_mem hm))
    rw [insF, if_neg (by simp [hxo])]
    rw [insF_at hw x r m (by simpa using hk) hs'.2 (fun b hb => h1 b (by simpa using hb)) ?_]
    · simp
    · cases m with
      | zero => exact .inl rfl
      | succ m =>
        right
        rcases h2 with h | ⟨h, e⟩
        · omega
        · have hm : m < r.length := by simp at h; omega
          exact ⟨by simpa using hm, by simpa using e⟩
theorem isort_snoc {lt : α → α → Bool} (l : List α) (x : α) : isort lt (l ++ [x]) = insF lt x (isort lt l) := by simp [isort]
theorem isort_sorted {lt : α → α → Bool} (hw : Weak lt) (l : List α) : Sorted lt (isort lt l) := by
  have key : ∀ (l : List α) (out : List α), Sorted lt out → Sorted lt (l.foldl (fun out x => insF lt x out) out) := by
    intro l
    induction l with
    | nil => intro out h; exact h
    | cons x l ih => intro out h; exact ih _ (insF_sorted hw x h)
  exact key l [] List.Pairwise.nil
theorem isort_mem {lt : α → α → Bool} {z : α} : ∀ {l : List α}, z ∈ isort lt l ↔ z ∈ l := by
  have key : ∀ (l out : List α), z ∈ l.foldl (fun out x => insF lt x out) out ↔ z ∈ l ∨ z ∈ out := by
    intro l
    induction l with
    | nil => intro out; simp
    | cons x l ih =>
      intro out
      rw [List.foldl_cons, ih, insF_mem]
      simp
      constructor
      · rintro (h | h | h) <;> simp [h]
      · rintro ((h | h) | h) <;> simp [h]
  intro l
  have := key l []
  simpa [isort] using this
theorem insF_len {lt : α → α → Bool} (x : α) : ∀ l : List α, (insF lt x l).length = l.length + 1
  | [] => rfl
  | y :: r => by
    rw [insF]
    split
    · simp
    · simp [insF_len x r]
theorem isort_len {lt : α → α → Bool} (l : List α) : (isort lt l).length = l.length := by
  have key : ∀ (l out : List α), (l.foldl (fun out x => insF lt x out) out).length = l.length + out.length := by
    intro l
    induction l with
    | nil => intro out; simp
    | cons x l ih => intro out; rw [List.foldl_cons, ih, insF_len]; simp; omega
  have := key l []
  simpa [isort] using this

end Go.Proofs.Ythlhbjnkohinmaa

/- The program's instantiations: two lists merged. -/
namespace Go.Proofs.Ythlhbjnkohinmaa
open Go.RowKit

theorem slice_tail_run {P : Program} (w : World) (t e : TypeId) (ad : Option Addr) (n c i sz : Nat) (hu : P.underlying t = some (.slice e)) (hi : (P.info? e).map (·.size) = some sz) (h1 : i ≤ n) :
    (Instr.sliceAt t (.slice ad n c) (some (.int .i64 i)) none none).run P w = .ok (.slice (if c = i then ad else ad.map (·.add (i * sz))) (n - i) (c - i)) w := by
  cases hq : P.info? e with
  | none => simp [hq] at hi
  | some d =>
    simp [hq] at hi
    simp [Instr.sliceAt, Instr.slice, Instr.sliceBounds, Instr.sliceBound, underlying, sizeOf, typeInfo, hu, hq, hi, asIntOf]
    intro h
    omega
theorem wpList_slice_tail {P : Program} {ops : Array Oper} {rest : List Oper} {op : Oper} {a : Act} {w : World} {Q : Exit → Act → World → Prop} (hgd : op.guard = none) (t e : TypeId) (x y : Operand) (ho : op.op = .slice t x (some y) none none)
    (ad : Option Addr) (n c i sz : Nat) (hx : a.eval x = .slice ad n c) (hy : a.eval y = .int .i64 i) (h1 : i ≤ n) (hu : P.underlying t = some (.slice e)) (hi : (P.info? e).map (·.size) = some sz)
    (h : wpList P ops Q rest (a.put op.dst (.slice (if c = i then ad else ad.map (·.add (i * sz))) (n - i) (c - i))) w) : wpList P ops Q (op :: rest) a w :=
  wpList_plain hgd fun _ hK => by
    unfold Oper.wp execOp
    have := slice_tail_run (P := P) w t e ad n c i sz hu hi h1
    simp only [ho, hx, hy, Option.map_some, Option.map_none, Sem.run_bind, Sem.run_pure, this, Result.andThen_ok]
    exact hK _ _ h

/-- Which comes ahead. -/
def ltI (wt : Nat → Int) (a b : In) : Bool := ahB (wt a.rule) (latF a.facts) (wt b.rule) (latF b.facts)
theorem insW_at (wt : Nat → Int) {w : World} {g o : Nat} {l : List In} (h : w.rangeAt g o (insW wt l)) {k : Nat} (hk : k < l.length) : w.rangeAt g (o + k * 24) (inCells (wt l[k].rule) l[k]) := fun j v hv => by
  have := h _ v (rowf_at (f := fun i : In => inCells (wt i.rule) i) (m := 24) (fun _ => rfl) l k hk j v hv)
  rw [← Nat.add_assoc] at this
  exact this
theorem range_grown {w w' : World} {g o : Nat} {cs : List Value} (h : w.rangeAt g o cs) (hg : w.grownBy w' none) : w'.rangeAt g o cs := fun j v hv => grown_cell hg (h j v hv)
theorem insW_len (wt : Nat → Int) : ∀ l : List In, (insW wt l).length = l.length * 24
  | [] => rfl
  | i :: l => by
    have := insW_len wt l
    unfold insW at this ⊢
    rw [List.flatMap_cons, List.length_append, this, inCells_len, List.length_cons, Nat.add_mul]
    omega
theorem insW_drop (wt : Nat → Int) : ∀ (l : List In) (p : Nat), (insW wt l).drop (p * 24) = insW wt (l.drop p)
  | l, 0 => by simp
  | [], p + 1 => by simp [insW]
  | i :: l, p + 1 => by
    have := insW_drop wt l p
    unfold insW at this ⊢
    rw [List.flatMap_cons, List.drop_succ_cons, ← this, Nat.add_mul, List.drop_append, inCells_len, show p * 24 + 1 * 24 - 24 = p * 24 by omega, List.drop_eq_nil_of_le (by rw [inCells_len]; omega), List.nil_append]
theorem insW_ones (wt : Nat → Int) (l : List In) : ∀ u ∈ insW wt l, u.oneCell' = true := by
  intro u hu
  obtain ⟨i, _, hi⟩ := List.mem_flatMap.mp hu
  exact inCells_one _ _ u hi
/-- What lies behind the first p. -/
theorem tail_at (wt : Nat → Int) {w : World} {g o c : Nat} {l : List In} (h : w.rangeAt g o (insW wt l)) (hc : l.length ≤ c) {p : Nat} (hp : p ≤ l.length) : ∃ A, (if c = p then some (⟨g, o, none⟩ : Addr) else (some (⟨g, o, none⟩ : Addr)).map (·.add (p * 24))) = some A ∧ ∀ j u, (insW wt (l.drop p))[j]? = some u → w.cell? (A.add j) = some u := by
  have hadd : ∀ (b f n : Nat), (⟨b, f, none⟩ : Addr).add n = ⟨b, f + n, none⟩ := fun b f n => by unfold Addr.add; split <;> simp_all
  by_cases e : c = p
  · rw [if_pos e]
    refine ⟨_, rfl, fun j u hu => ?_⟩
    rw [List.drop_eq_nil_of_le (by omega)] at hu
    simp [insW] at hu
  · rw [if_neg e]
    refine ⟨_, rfl, fun j u hu => ?_⟩
    rw [← insW_drop, List.getElem?_drop] at hu
    show w.cell? ((Addr.add ⟨g, o, none⟩ (p * 24)).add j) = some u
    rw [hadd, hadd, Nat.add_assoc]
    exact h _ u hu

set_option maxRecDepth 20000 in
set_option maxHeartbeats 2000000 in
theorem pmerged_any (wt : Nat → Int) (l r : List In) (gl ol cl gr og cr : Nat) (w : World) (hl : l.length ≤ 2160000) (hr : r.length ≤ 2160000) (hcl : l.length ≤ cl) (hcr : r.length ≤ cr) (_hbl : gl < w.heap.size) (_hbr : gr < w.heap.size)
    (hL : w.rangeAt gl ol (insW wt l)) (hR : w.rangeAt gr og (insW wt r)) :
    Calls Try.prog 59 #[.slice (some ⟨gl, ol, none⟩) l.length cl, .slice (some ⟨gr, og, none⟩) r.length cr] w fun e w' => ∃ v, e = .returned v ∧ w'.ownsRow w.heap.size 138 24 v (mrg (ltI wt) l r).length (insW wt (mrg (ltI wt) l r)) ∧ w.grownBy w' none := by
  obtain ⟨i0, hi0, hz0, hz1, hz2⟩ := info_parts Try.infoI
  have HL := hid hL
  have HR := hid hR
  clear hL hR
  go_enter Try.func59, Try.ntmps59
  go_wp2_with fail
  go_loopw [5, 6, 7] (fun t il ir wr => ∃ (p q : Nat) (out : List In), p ≤ l.length ∧ q ≤ r.length ∧ il = .int .i64 p ∧ ir = .int .i64 q ∧ out ++ mrg (ltI wt) (l.drop p) (r.drop q) = mrg (ltI wt) l r ∧ out.length = p + q ∧ wr.ownsRow w.heap.size 138 24 t out.length (insW wt out) ∧ w.grownBy wr none) (fun _ il ir _ => l.length + r.length - ((intOf il).toNat + (intOf ir).toNat))
  case atStart => exact ⟨0, 0, [], by omega, by omega, rfl, rfl, by simp, rfl, World.ownsRow_nil _ _ _ _, grown_refl _ _⟩
  case round =>
    obtain ⟨p, q, out, hp, hq, rfl, rfl, hout, hol, hown, hg⟩ := hrel
    have HG := hid hg
    have HOW := hid hown
    have HOUT := hid hout
    have hsz := hg.size
    obtain ⟨a, m, cc, rfl⟩ := own_slice hown
    have em := own_len hown
    subst em
    have HLT := hid (fun g hg => (HOW.out.lt g hg).1)
    have HOWG : Hid (∀ W, wr.grownBy W none → W.ownsRow w.heap.size 138 24 (.slice a out.length cc) out.length (insW wt out)) := hid (fun W hW => own_kept HOW.out hW (fun g hg => by cases hg))
    by_cases hboth : p < l.length ∧ q < r.length
    · obtain ⟨hpl, hqr⟩ := hboth
      obtain ⟨AL, hAL⟩ : ∃ AL, AL = inCells (wt l[p].rule) l[p] := ⟨_, rfl⟩
      obtain ⟨BR, hBR⟩ : ∃ BR, BR = inCells (wt r[q].rule) r[q] := ⟨_, rfl⟩
      have hALl : AL.length = 24 := by rw [hAL]; rfl
      have hBRl : BR.length = 24 := by rw [hBR]; rfl
      have HRAL : Hid (wr.rangeAt gl (ol + p * 24) AL) := hid (by rw [hAL]; exact range_grown (insW_at wt HL.out hpl) hg)
      have HRBR : Hid (wr.rangeAt gr (og + q * 24) BR) := hid (by rw [hBR]; exact range_grown (insW_at wt HR.out hqr) hg)
      have HIAL : Hid ((Try.prog.info? 138).map (·.size) = some AL.length) := hid (by rw [hALl]; exact info_inst)
      have HIBR : Hid ((Try.prog.info? 138).map (·.size) = some BR.length) := hid (by rw [hBRl]; exact info_inst)
      have HZAL : Hid ((Try.prog.info? 138).map (fun i => (i.zero, i.size)) = some (some (.agg #[.int .i64 0, .int .i64 0, .int .i64 0, .int .i64 0, .int .i64 0, .int .i64 0, .int .i64 0, .int .i64 0, .int .i64 0, .int .i64 0, .int .i64 0, .int .i64 0, .int .i64 0, .int .i64 0, .int .i64 0, .int .i64 0, .bool false, .bool false, .bool false, .bool false, .int .i64 0, .int .i64 0, .int .i64 0, .int .i64 0]), AL.length)) := hid (by rw [hALl]; kernel_rfl)
      have HZBR : Hid ((Try.prog.info? 138).map (fun i => (i.zero, i.size)) = some (some (.agg #[.int .i64 0, .int .i64 0, .int .i64 0, .int .i64 0, .int .i64 0, .int .i64 0, .int .i64 0, .int .i64 0, .int .i64 0, .int .i64 0, .int .i64 0, .int .i64 0, .int .i64 0, .int .i64 0, .int .i64 0, .int .i64 0, .bool false, .bool false, .bool false, .bool false, .int .i64 0, .int .i64 0, .int .i64 0, .int .i64 0]), BR.length)) := hid (by rw [hBRl]; kernel_rfl)
      have HOAL : Hid (∀ u ∈ AL, u.oneCell' = true) := hid (by rw [hAL]; exact inCells_one _ _)
      have HOBR : Hid (∀ u ∈ BR, u.oneCell' = true) := hid (by rw [hBR]; exact inCells_one _ _)
      have HAH : Hid (∀ W, Calls Try.prog 77 #[.agg BR.toArray, .agg AL.toArray] W fun e w' => e = .returned (.bool (ltI wt r[q] l[p])) ∧ W.grownBy w' none) := hid (fun W => by
        rw [hAL, hBR]
        exact pahead_any _ _ r[q] l[p] W)
      have HM : Hid (mrg (ltI wt) (l.drop p) (r.drop q) = if ltI wt r[q] l[p] then r[q] :: mrg (ltI wt) (l.drop p) (r.drop (q + 1)) else l[p] :: mrg (ltI wt) (l.drop (p + 1)) (r.drop q)) := hid (by
        rw [List.drop_eq_getElem_cons hpl, List.drop_eq_getElem_cons hqr, mrg])
      obtain ⟨ok, hok⟩ : ∃ ok, ok = ltI wt r[q] l[p] := ⟨_, rfl⟩
      rw [← hok] at HAH HM
      have HNR : Hid (ok = true → (out ++ [r[q]]) ++ mrg (ltI wt) (l.drop p) (r.drop (q + 1)) = mrg (ltI wt) l r) := hid (fun e => by
        rw [← HOUT.out, HM.out, if_pos e]
        simp)
      have HNL : Hid (ok = false → (out ++ [l[p]]) ++ mrg (ltI wt) (l.drop (p + 1)) (r.drop q) = mrg (ltI wt) l r) := hid (fun e => by
        rw [← HOUT.out, HM.out, if_neg (by simp [e])]
        simp)
      have HWR : Hid (∀ (w3 : World) (v' : Value), w3.ownsRow w.heap.size 138 24 v' (out.length + 1) (insW wt out ++ BR) → w3.ownsRow w.heap.size 138 24 v' (out ++ [r[q]]).length (insW wt (out ++ [r[q]]))) := hid (fun w3 v' h => by
        rw [insW_app, insW_one, List.length_append, ← hBR]
        exact h)
      have HWL : Hid (∀ (w3 : World) (v' : Value), w3.ownsRow w.heap.size 138 24 v' (out.length + 1) (insW wt out ++ AL) → w3.ownsRow w.heap.size 138 24 v' (out ++ [l[p]]).length (insW wt (out ++ [l[p]]))) := hid (fun w3 v' h => by
        rw [insW_app, insW_one, List.length_append, ← hAL]
        exact h)
      obtain ⟨nl, hnl⟩ : ∃ nl, nl = out.length := ⟨_, rfl⟩
      obtain ⟨xs, hxs⟩ : ∃ xs, xs = insW wt out := ⟨_, rfl⟩
      rw [← hnl] at HOWG HOW HLT HWR HWL hol ⊢
      rw [← hxs] at HOWG HOW HWR HWL
      have HNLN := hid hnl
      have HOL := hid hol
      have hnb : nl ≤ 4320000 := by omega
      clear hol
      have p1 : (p : Int) < (l.length : Int) := by omega
      have q1 : (q : Int) < (r.length : Int) := by omega
      have p0 : (0 : Int) ≤ (p : Int) := by omega
      have q0 : (0 : Int) ≤ (q : Int) := by omega
      clear hnl hxs hok hAL hBR hown hg hout HM HOUT
      go_wp2_with fail
      refine wp_region_held_drew (S := fun W => W.rangeAt gr (og + q * 24) BR ∧ W.rangeAt gl (ol + p * 24) AL) (by kernel_rfl) ⟨HRBR.out, HRAL.out⟩ (fun hHeld => ?_)
      refine wpAnyH_take (i := 0) (v := .slice (some ⟨gr, og, none⟩) r.length cr) rfl (by kernel_rfl) (by kernel_rfl) (by kernel_rfl) (fun _ _ _ h => h) (Or.inl ⟨by rfl, ?_⟩) hHeld ?_
      · intro W hSw
        go_simp
      refine wpAnyH_take (i := 1) (v := .int .i64 q) rfl (by kernel_rfl) (by kernel_rfl) (by kernel_rfl) (fun _ _ _ h => h) (Or.inl ⟨by rfl, ?_⟩) hHeld ?_
      · intro W hSw
        go_simp
      refine wpAnyH_take (i := 2) (v := .pointer (some ⟨gr, og + q * 24, none⟩)) rfl (by kernel_rfl) (by kernel_rfl) (by kernel_rfl) (fun _ _ _ h => h) (Or.inl ⟨by rfl, ?_⟩) hHeld ?_
      · intro W hSw
        go_simp
      refine wpAnyH_take (i := 3) (v := .agg BR.toArray) rfl (by kernel_rfl) (by kernel_rfl) (by kernel_rfl) (fun _ _ _ h => h) (yieldsIf_load_mid (by rfl) 138 _ rfl gr (og + q * 24) rfl BR _ (fun W hSw => hSw.1) Try.underlying138 rfl HIBR.out) hHeld ?_
      refine wpAnyH_take (i := 4) (v := .slice (some ⟨gl, ol, none⟩) l.length cl) rfl (by kernel_rfl) (by kernel_rfl) (by kernel_rfl) (fun _ _ _ h => h) (Or.inl ⟨by rfl, ?_⟩) hHeld ?_
      · intro W hSw
        go_simp
      refine wpAnyH_take (i := 5) (v := .int .i64 p) rfl (by kernel_rfl) (by kernel_rfl) (by kernel_rfl) (fun _ _ _ h => h) (Or.inl ⟨by rfl, ?_⟩) hHeld ?_
      · intro W hSw
        go_simp
      refine wpAnyH_take (i := 6) (v := .pointer (some ⟨gl, ol + p * 24, none⟩)) rfl (by kernel_rfl) (by kernel_rfl) (by kernel_rfl) (fun _ _ _ h => h) (Or.inl ⟨by rfl, ?_⟩) hHeld ?_
      · intro W hSw
        go_simp
      refine wpAnyH_take (i := 7) (v := .agg AL.toArray) rfl (by kernel_rfl) (by kernel_rfl) (by kernel_rfl) (fun _ _ _ h => h) (yieldsIf_load_mid (by rfl) 138 _ rfl gl (ol + p * 24) rfl AL _ (fun W hSw => hSw.2) Try.underlying138 rfl HIAL.out) hHeld ?_
      refine wpAnyH_ready (rs := [8]) (by kernel_rfl) (by simp) ?_
      refine AllReadyH.cons (o := _) rfl (fun K hK => ?_) AllReadyH.nil
      go_simp
      go_at_call 77
      refine (HAH.out _).mono ?_
      rintro e w1 ⟨rfl, hg1⟩
      have HG1 : Hid (wr.grownBy w1 none) := hid (grown_undrew (n := 1) hg1)
      have HRAL1 : Hid (w1.rangeAt gl (ol + p * 24) AL) := hid (range_grown HRAL.out HG1.out)
      have HRBR1 : Hid (w1.rangeAt gr (og + q * 24) BR) := hid (range_grown HRBR.out HG1.out)
      have hs1 := HG1.out.size
      clear hg1 HAH
      go_wp2_with fail
      refine hK.out _ _ ⟨HRBR1.out, HRAL1.out⟩ (fun hHeld2 => ?_)
      clear hK K
      refine wpAnyH_done (by kernel_rfl) ?_ _
      clear hHeld hHeld2
      have how1BR := HOWG.out _ (grown_alloc HG1.out (.cells BR.toArray 138))
      have how1AL := HOWG.out _ (grown_alloc HG1.out (.cells AL.toArray 138))
      cases ok with
      | true =>
        go_wp2_with (first
          | (refine wpList_load_mid rfl 138 (.tmp 30) rfl gr (og + q * 24) rfl BR _ HRBR1.out Try.underlying138 rfl HIBR.out ?_)
          | (refine wpList_build_one rfl 102 138 (.tmp 31) rfl _ BR rfl Try.underlying102 HZBR.out (by omega) (by omega) ?_)
          | (at_builtin; refine wpList_append_own _ rfl (.tmp 27) (.tmp 32) 102 rfl (w.heap.size) 138 i0 (.agg #[.int .i64 0, .int .i64 0, .int .i64 0, .int .i64 0, .int .i64 0, .int .i64 0, .int .i64 0, .int .i64 0, .int .i64 0, .int .i64 0, .int .i64 0, .int .i64 0, .int .i64 0, .int .i64 0, .int .i64 0, .int .i64 0, .bool false, .bool false, .bool false, .bool false, .int .i64 0, .int .i64 0, .int .i64 0, .int .i64 0]) 24 168 Try.underlying102 hi0 hz0 hz1 hz2 rfl (by decide) _ _ _ rfl how1BR _ 1 1 BR rfl (by omega) (fun j u hj => news_at1 hj) HOBR.out (by unfold maxLen; omega) (by omega) (by simp; omega) ?_))
        intro v' w3 hown3 hg3 _
        have HO3 := hid hown3
        have HG3 : Hid (w.grownBy w3 none) := hid (grown_own2 (grown_trans HG.out (grown_alloc HG1.out _)) hg3 HLT.out)
        clear hown3 hg3
        go_wp2_with fail
        go_roundw
        case rel => exact ⟨p, q + 1, _, by omega, by omega, rfl, by go_num, HNR.out (by first | rfl | trivial), by rw [List.length_append, ← HNLN.out, HOL.out]; simp; omega, HWR.out _ _ HO3.out, HG3.out⟩
        case measure => simp [intOf]; omega
      | false =>
        go_wp2_with (first
          | (refine wpList_load_mid rfl 138 (.tmp 39) rfl gl (ol + p * 24) rfl AL _ HRAL1.out Try.underlying138 rfl HIAL.out ?_)
          | (refine wpList_build_one rfl 102 138 (.tmp 40) rfl _ AL rfl Try.underlying102 HZAL.out (by omega) (by omega) ?_)
          | (at_builtin; refine wpList_append_own _ rfl (.tmp 36) (.tmp 41) 102 rfl (w.heap.size) 138 i0 (.agg #[.int .i64 0, .int .i64 0, .int .i64 0, .int .i64 0, .int .i64 0, .int .i64 0, .int .i64 0, .int .i64 0, .int .i64 0, .int .i64 0, .int .i64 0, .int .i64 0, .int .i64 0, .int .i64 0, .int .i64 0, .int .i64 0, .bool false, .bool false, .bool false, .bool false, .int .i64 0, .int .i64 0, .int .i64 0, .int .i64 0]) 24 168 Try.underlying102 hi0 hz0 hz1 hz2 rfl (by decide) _ _ _ rfl how1AL _ 1 1 AL rfl (by omega) (fun j u hj => news_at1 hj) HOAL.out (by unfold maxLen; omega) (by omega) (by simp; omega) ?_))
        intro v' w3 hown3 hg3 _
        have HO3 := hid hown3
        have HG3 : Hid (w.grownBy w3 none) := hid (grown_own2 (grown_trans HG.out (grown_alloc HG1.out _)) hg3 HLT.out)
        clear hown3 hg3
        go_wp2_with fail
        go_roundw
        case rel => exact ⟨p + 1, q, _, by omega, by omega, by go_num, rfl, HNL.out (by first | rfl | trivial), by rw [List.length_append, ← HNLN.out, HOL.out]; simp; omega, HWL.out _ _ HO3.out, HG3.out⟩
        case measure => simp [intOf]; omega
    · have HEND : Hid (out ++ l.drop p ++ r.drop q = mrg (ltI wt) l r) := hid (by
        rw [← HOUT.out]
        by_cases h1 : p < l.length
        · have h2 : q = r.length := by
            by_cases h3 : q < r.length
            · exact absurd ⟨h1, h3⟩ hboth
            · omega
          subst h2
          rw [List.drop_length, mrg_nil]
          simp
        · have h2 : p = l.length := by omega
          subst h2
          rw [List.drop_length]
          simp [mrg])
      obtain ⟨A1, hA1, hn1⟩ := tail_at wt (range_grown HL.out hg) hcl hp
      obtain ⟨A2, hA2, _⟩ := tail_at wt HR.out hcr hq
      have HTR : Hid (∀ W, w.grownBy W none → ∀ j u, (insW wt (r.drop q))[j]? = some u → W.cell? (A2.add j) = some u) := hid (fun W hW => by
        obtain ⟨A3, hA3, hn3⟩ := tail_at wt (range_grown HR.out hW) hcr hq
        have : A3 = A2 := by
          rw [hA2] at hA3
          exact (Option.some.inj hA3).symm
        rw [this] at hn3
        exact hn3)
      have HN1 := hid hn1
      have HA1 := hid hA1
      have HA2 := hid hA2
      have hdl1 : (insW wt (l.drop p)).length = (l.length - p) * 24 := by rw [insW_len]; simp
      have hdl2 : (insW wt (r.drop q)).length = (r.length - q) * 24 := by rw [insW_len]; simp
      have HO1 := hid (insW_ones wt (l.drop p))
      have HO2 := hid (insW_ones wt (r.drop q))
      have HII : Hid ((Try.prog.info? 138).map (·.size) = some 24) := hid info_inst
      have HFIN : Hid (∀ (w4 : World) (v : Value), w4.ownsRow w.heap.size 138 24 v (out.length + (l.length - p) + (r.length - q)) (insW wt out ++ (insW wt (l.drop p) ++ insW wt (r.drop q))) → w4.ownsRow w.heap.size 138 24 v (mrg (ltI wt) l r).length (insW wt (mrg (ltI wt) l r))) := hid (fun w4 v h => by
        rw [← HEND.out, insW_app, insW_app, List.length_append, List.length_append, List.length_drop, List.length_drop, List.append_assoc]
        exact h)
      obtain ⟨X1, hX1⟩ : ∃ X1, X1 = insW wt (l.drop p) := ⟨_, rfl⟩
      obtain ⟨X2, hX2⟩ : ∃ X2, X2 = insW wt (r.drop q) := ⟨_, rfl⟩
      rw [← hX1] at HN1 hdl1 HO1 HFIN
      rw [← hX2] at HTR hdl2 HO2 HFIN
      have p0 : (0 : Int) ≤ (p : Int) := by omega
      have q0 : (0 : Int) ≤ (q : Int) := by omega
      obtain ⟨nl, hnl⟩ : ∃ nl, nl = out.length := ⟨_, rfl⟩
      obtain ⟨xs, hxs⟩ : ∃ xs, xs = insW wt out := ⟨_, rfl⟩
      rw [← hnl] at HOWG HOW HLT HFIN hol ⊢
      rw [← hxs] at HOWG HOW HFIN
      have hnb : nl ≤ 4320000 := by omega
      have how0 := HOW.out
      clear hnl hxs hol
      clear hX1 hX2 hown hg hout hA1 hA2 hn1 HOUT HEND
      by_cases hpl : p < l.length
      all_goals
        have hpd : decide ((p : Int) < (l.length : Int)) = decide (p < l.length) := by simp
        have hqd : decide ((q : Int) < (r.length : Int)) = decide (q < r.length) := by simp
      · have hqn : decide ((q : Int) < (r.length : Int)) = false := by
          rw [hqd]
          simp only [decide_eq_false_iff_not]
          intro h3
          exact hboth ⟨hpl, h3⟩
        have hpy : (p : Int) < (l.length : Int) := by omega
        clear hpd hqd
        go_wp2_with (first
          | (refine wpList_slice_tail rfl 102 138 (.tmp 46) (.tmp 47) rfl _ _ _ p 24 rfl rfl (by omega) Try.underlying102 HII.out ?_; rw [HA1.out])
          | (at_builtin; refine wpList_append_own _ rfl (.tmp 45) (.tmp 48) 102 rfl (w.heap.size) 138 i0 (.agg #[.int .i64 0, .int .i64 0, .int .i64 0, .int .i64 0, .int .i64 0, .int .i64 0, .int .i64 0, .int .i64 0, .int .i64 0, .int .i64 0, .int .i64 0, .int .i64 0, .int .i64 0, .int .i64 0, .int .i64 0, .int .i64 0, .bool false, .bool false, .bool false, .bool false, .int .i64 0, .int .i64 0, .int .i64 0, .int .i64 0]) 24 168 Try.underlying102 hi0 hz0 hz1 hz2 rfl (by decide) _ _ _ rfl how0 A1 (l.length - p) _ X1 rfl hdl1 HN1.out HO1.out (by unfold maxLen; omega) (by omega) (by omega) ?_))
        intro v1 w3 hown3 hg3 _
        have HG3 : Hid (w.grownBy w3 none) := hid (grown_own2 HG.out hg3 HLT.out)
        have hs3 := HG3.out.size
        have HLT3 := hid (fun g hg => (hown3.lt g hg).1)
        clear hg3
        go_wp2_with (first
          | (refine wpList_slice_tail rfl 102 138 (.tmp 51) (.tmp 52) rfl _ _ _ q 24 rfl rfl (by omega) Try.underlying102 HII.out ?_; rw [HA2.out])
          | (at_builtin; refine wpList_append_own _ rfl (.tmp 50) (.tmp 53) 102 rfl (w.heap.size) 138 i0 (.agg #[.int .i64 0, .int .i64 0, .int .i64 0, .int .i64 0, .int .i64 0, .int .i64 0, .int .i64 0, .int .i64 0, .int .i64 0, .int .i64 0, .int .i64 0, .int .i64 0, .int .i64 0, .int .i64 0, .int .i64 0, .int .i64 0, .bool false, .bool false, .bool false, .bool false, .int .i64 0, .int .i64 0, .int .i64 0, .int .i64 0]) 24 168 Try.underlying102 hi0 hz0 hz1 hz2 rfl (by decide) _ _ _ rfl hown3 A2 (r.length - q) _ X2 rfl hdl2 (HTR.out _ HG3.out) HO2.out (by unfold maxLen; omega) (by omega) (by omega) ?_))
        intro v2 w4 hown4 hg4 _
        have HO4 := hid (HFIN.out _ _ hown4)
        have HG4 : Hid (w.grownBy w4 none) := hid (grown_own2 HG3.out hg4 HLT3.out)
        clear hown3 hown4 hg4
        go_wp2_with fail
        go_ret
        exact ⟨_, rfl, HO4.out, HG4.out⟩
      · have hpn : decide ((p : Int) < (l.length : Int)) = false := by
          rw [hpd]
          simpa using hpl
        clear hpd hqd
        go_wp2_with (first
          | (refine wpList_slice_tail rfl 102 138 (.tmp 46) (.tmp 47) rfl _ _ _ p 24 rfl rfl (by omega) Try.underlying102 HII.out ?_; rw [HA1.out])
          | (at_builtin; refine wpList_append_own _ rfl (.tmp 45) (.tmp 48) 102 rfl (w.heap.size) 138 i0 (.agg #[.int .i64 0, .int .i64 0, .int .i64 0, .int .i64 0, .int .i64 0, .int .i64 0, .int .i64 0, .int .i64 0, .int .i64 0, .int .i64 0, .int .i64 0, .int .i64 0, .int .i64 0, .int .i64 0, .int .i64 0, .int .i64 0, .bool false, .bool false, .bool false, .bool false, .int .i64 0, .int .i64 0, .int .i64 0, .int .i64 0]) 24 168 Try.underlying102 hi0 hz0 hz1 hz2 rfl (by decide) _ _ _ rfl how0 A1 (l.length - p) _ X1 rfl hdl1 HN1.out HO1.out (by unfold maxLen; omega) (by omega) (by omega) ?_))
        intro v1 w3 hown3 hg3 _
        have HG3 : Hid (w.grownBy w3 none) := hid (grown_own2 HG.out hg3 HLT.out)
        have hs3 := HG3.out.size
        have HLT3 := hid (fun g hg => (hown3.lt g hg).1)
        clear hg3
        go_wp2_with (first
          | (refine wpList_slice_tail rfl 102 138 (.tmp 51) (.tmp 52) rfl _ _ _ q 24 rfl rfl (by omega) Try.underlying102 HII.out ?_; rw [HA2.out])
          | (at_builtin; refine wpList_append_own _ rfl (.tmp 50) (.tmp 53) 102 rfl (w.heap.size) 138 i0 (.agg #[.int .i64 0, .int .i64 0, .int .i64 0, .int .i64 0, .int .i64 0, .int .i64 0, .int .i64 0, .int .i64 0, .int .i64 0, .int .i64 0, .int .i64 0, .int .i64 0, .int .i64 0, .int .i64 0, .int .i64 0, .int .i64 0, .bool false, .bool false, .bool false, .bool false, .int .i64 0, .int .i64 0, .int .i64 0, .int .i64 0]) 24 168 Try.underlying102 hi0 hz0 hz1 hz2 rfl (by decide) _ _ _ rfl hown3 A2 (r.length - q) _ X2 rfl hdl2 (HTR.out _ HG3.out) HO2.out (by unfold maxLen; omega) (by omega) (by omega) ?_))
        intro v2 w4 hown4 hg4 _
        have HO4 := hid (HFIN.out _ _ hown4)
        have HG4 : Hid (w.grownBy w4 none) := hid (grown_own2 HG3.out hg4 HLT3.out)
        clear hown3 hown4 hg4
        go_wp2_with fail
        go_ret
        exact ⟨_, rfl, HO4.out, HG4.out⟩

end Go.Proofs.Ythlhbjnkohinmaa
