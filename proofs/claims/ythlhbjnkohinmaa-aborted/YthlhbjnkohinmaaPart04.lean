import Derived.Test.YthlhbjnkohinmaaPart03
import Derived.Test.YthlhbjnkohinmaaPart01
/- The program's instantiations: one with a fact more, as plain data. -/
namespace Go.Proofs.Ythlhbjnkohinmaa
open Go.RowKit

def digL (e : Env) : List Value := [.bool (dB e 0), .bool (dB e 1), .bool (dB e 2), .bool (dB e 3), .int .i64 (dI e 0), .int .i64 (dI e 1), .int .i64 (dI e 2), .int .i64 (dI e 3)]
def facL (q : PFact) : List Value := [.int .i64 ((q.1 : Int) / 10), .int .i64 ((q.1 : Int) % 10), .int .i64 q.2.1, .int .i64 q.2.2]
def cndL (k c g t1 t2 : Int) : List Value := [.int .i64 k, .int .i64 (c - 97), .int .u8 g, .int .i64 (opK t1), .int .i64 (opV t1), .int .i64 (opK t2), .int .i64 (opV t2)]
theorem inCells_len (wt : Int) (i : In) : (inCells wt i).length = 24 := rfl
theorem inCells_one (wt : Int) (i : In) : ∀ v ∈ inCells wt i, v.oneCell' = true := by
  intro v hv
  simp only [inCells, List.mem_cons, List.not_mem_nil, or_false] at hv
  rcases hv with h | h | h | h | h | h | h | h | h | h | h | h | h | h | h | h | h | h | h | h | h | h | h | h <;> rw [h] <;> rfl
theorem digL_one (e : Env) : ∀ v ∈ digL e, v.oneCell' = true := by
  intro v hv
  simp only [digL, List.mem_cons, List.not_mem_nil, or_false] at hv
  rcases hv with h | h | h | h | h | h | h | h <;> rw [h] <;> rfl
theorem facL_one (q : PFact) : ∀ v ∈ facL q, v.oneCell' = true := by
  intro v hv
  simp only [facL, List.mem_cons, List.not_mem_nil, or_false] at hv
  rcases hv with h | h | h | h <;> rw [h] <;> rfl

theorem in_next_l (wt : Int) (i : In) (q : PFact) (e : Env) (hl : i.facts.length < 3) (hq : latF i.facts < q.2.2) :
    inCells wt ⟨i.rule, i.facts ++ [q], e⟩ = ((setL (setL (inCells wt i) 16 (digL e)) (4 + i.facts.length * 4) (facL q)).set 3 (.int .i64 (i.facts.length + 1))).set 2 (.int .i64 q.2.2) := by
  obtain ⟨r, l, e0⟩ := i
  have h : latF (l ++ [q]) = q.2.2 := by rw [latF_snoc, if_pos hq]
  unfold inCells
  simp only []
  rw [h]
  clear h hq
  match l, hl with
  | [], _ => rfl
  | [a], _ => rfl
  | [a, b], _ => rfl
theorem in_next_e (wt : Int) (i : In) (q : PFact) (e : Env) (hl : i.facts.length < 3) (hq : q.2.2 ≤ latF i.facts) :
    inCells wt ⟨i.rule, i.facts ++ [q], e⟩ = (setL (setL (inCells wt i) 16 (digL e)) (4 + i.facts.length * 4) (facL q)).set 3 (.int .i64 (i.facts.length + 1)) := by
  obtain ⟨r, l, e0⟩ := i
  have h : latF (l ++ [q]) = latF l := by rw [latF_snoc, if_neg (by simp only [] at hq; omega)]
  unfold inCells
  simp only []
  rw [h]
  clear h hq
  match l, hl with
  | [], _ => rfl
  | [a], _ => rfl
  | [a, b], _ => rfl

/-- What an instantiation with a fact more is. -/
def withV (wt : Int) (i : In) (c t1 t2 : Int) (q : PFact) : Value := match goP i.env c t1 t2 q with
  | some e => .tuple #[inV wt ⟨i.rule, i.facts ++ [q], e⟩, .bool true]
  | none => .tuple #[inV wt i, .bool false]
theorem pinst_any (wt : Int) (i : In) (k c g t1 t2 : Int) (q : PFact) (w : World) (hl : i.facts.length < 3) (h1 : terB t1 = true) (h2 : terB t2 = true) :
    Calls Try.prog 85 #[inV wt i, condV k c g t1 t2, factV q] w fun r w' => r = .returned (withV wt i c t1 t2 q) ∧ w.grownBy w' none := by
  unfold withV
  cases hg : goP i.env c t1 t2 q with
  | none =>
    refine pinst_no _ _ _ _ _ _ _ _ _ _ _ _ _ _ _ _ _ _ _ _ _ _ _ _ _ _ _ _ _ _ _ _ _ _ _ w (hid (fun W => ?_))
    refine (pgoes_any i.env k c g t1 t2 q W h1 h2).mono ?_
    rintro r w' ⟨⟨e', rfl, _⟩, hw⟩
    rw [hg]
    exact ⟨⟨_, _, _, _, _, _, _, _, rfl⟩, hw⟩
  | some e =>
    have HGO : Hid (∀ W, Calls Try.prog 95 #[.agg ((inCells wt i).drop 16).toArray, .agg (cndL k c g t1 t2).toArray, .agg (facL q).toArray] W fun r w' => r = .returned (.tuple #[.agg (digL e).toArray, .bool true]) ∧ W.grownBy w' none) := hid (fun W => by
      refine (pgoes_any i.env k c g t1 t2 q W h1 h2).mono ?_
      rintro r w' ⟨⟨e', rfl, he⟩, hw⟩
      rw [hg, he e hg]
      exact ⟨rfl, hw⟩)
    simp only []
    by_cases hq : latF i.facts < q.2.2
    · unfold inV
      rw [in_next_l wt i q e hl hq]
      exact pinst_okl (inCells wt i) (cndL k c g t1 t2) (facL q) (digL e) (latF i.facts) q.2.2 i.facts.length hl rfl rfl rfl rfl rfl rfl rfl (inCells_one _ _) (facL_one _) (digL_one _) hq w HGO
    · unfold inV
      rw [in_next_e wt i q e hl (by omega)]
      exact pinst_oke (inCells wt i) (cndL k c g t1 t2) (facL q) (digL e) (latF i.facts) q.2.2 i.facts.length hl rfl rfl rfl rfl rfl rfl rfl (inCells_one _ _) (facL_one _) (digL_one _) (by omega) w HGO

end Go.Proofs.Ythlhbjnkohinmaa

/- Walks over values whose cells are a list that stays closed: stored into a new block, built into a slice of one. -/
namespace Go.Proofs.Ythlhbjnkohinmaa
open Go.RowKit

theorem store_new_run {P : Program} (w : World) (t : TypeId) (Z : Array Value) (L : List Value) (hi : (P.info? t).map (·.size) = some L.length) (hZ : Z.size = L.length) (h1 : L.toArray.all (·.oneCell') = true) :
    (storeVar t ⟨w.heap.size, 0, none⟩ (.agg L.toArray)).run P (w.alloc (.cells Z t)) = .ok () (w.alloc (.cells L.toArray t)) := by
  have := run_storeCells_new (P := P) w t Z L.toArray (by simpa using hi) (by simpa using hZ) h1
  cases hq : P.info? t with
  | none => simp [hq] at hi
  | some i =>
    have hs : L.length = i.size := by simp [hq] at hi; omega
    simp [storeVar, sizeOf, typeInfo, hq, Value.cells, hs] at this ⊢
    exact this
theorem wpList_store_new {P : Program} {ops : Array Oper} {rest : List Oper} {op : Oper} {a : Act} {w : World} {Q : Exit → Act → World → Prop} (hgd : op.guard = none) (ty : TypeId) (x y : Operand) (ho : op.op = .store ty x y)
    (Z : Array Value) (L : List Value) (hx : a.eval x = .pointer (some ⟨w.heap.size, 0, none⟩)) (hy : a.eval y = .agg L.toArray)
    (hZ : Z.size = L.length) (hi : (P.info? ty).map (·.size) = some L.length) (h1 : L.toArray.all (·.oneCell') = true)
    (h : wpList P ops Q rest (a.put op.dst undef) (w.alloc (.cells L.toArray ty))) : wpList P ops Q (op :: rest) a (w.alloc (.cells Z ty)) :=
  wpList_plain hgd fun _ hK => by
    unfold Oper.wp execOp
    simp only [ho, hx, hy, Instr.storeAt, Instr.sureAddr, Sem.run_bind, Sem.run_pure, Result.andThen_ok, store_new_run w ty Z L hi hZ h1]
    exact hK _ _ h

theorem fold_at : ∀ (L : List Value) (k : Nat) (Z : Array Value) (j : Nat), ((L.zipIdx k).foldl (fun (cs : Array Value) (p : Value × Nat) => cs.setIfInBounds (0 + p.2) p.1) Z)[j]? = if k ≤ j ∧ j < k + L.length ∧ j < Z.size then L[j - k]? else Z[j]?
  | [], k, Z, j => by
    rw [if_neg (by simp; omega)]
    rfl
  | v :: L, k, Z, j => by
    rw [List.zipIdx_cons, List.foldl_cons, fold_at L (k + 1)]
    simp only [Array.size_setIfInBounds, List.length_cons, Nat.zero_add]
    by_cases e : j = k
    · subst e
      rw [if_neg (by omega)]
      by_cases hz : j < Z.size
      · rw [if_pos (by omega), Array.getElem?_setIfInBounds_self_of_lt hz]
        simp
      · rw [if_neg (by omega), Array.getElem?_eq_none (by simp; omega), Array.getElem?_eq_none (by omega)]
    · by_cases h1 : k + 1 ≤ j ∧ j < k + 1 + L.length ∧ j < Z.size
      · rw [if_pos h1, if_pos (by omega), show j - k = (j - (k + 1)) + 1 by omega]
        simp
      · rw [if_neg h1, if_neg (by omega), Array.getElem?_setIfInBounds_ne (fun h => e h.symm)]
theorem fold_whole (L : List Value) (Z : Array Value) (h : Z.size = L.length) : (L.toArray.zipIdx.foldl (fun (cs : Array Value) (p : Value × Nat) => cs.setIfInBounds (0 + p.2) p.1) Z) = L.toArray := by
  rw [← Array.foldl_toList, Array.toList_zipIdx]
  have hn := fold_at L 0 Z
  refine Array.ext' ?_
  refine List.ext_getElem? fun j => ?_
  have := hn j
  rw [← Array.getElem?_toList] at this
  refine this.trans ?_
  by_cases hj : j < L.length
  · rw [if_pos (by omega)]; simp
  · rw [if_neg (by omega), Array.getElem?_eq_none (by omega)]
    simp
    omega
theorem build_one_run {P : Program} (w : World) (t e : TypeId) (L : List Value) (Z : Array Value) (hu : P.underlying t = some (.slice e)) (hi : (P.info? e).map (fun i => (i.zero, i.size)) = some (some (.agg Z), L.length)) (h0 : 0 < L.length) (h2 : L.length ≤ 1000) :
    (Instr.buildSlice t 1 #[(0, .agg L.toArray)]).run P w = .ok (.slice (some ⟨w.heap.size, 0, none⟩) 1 1) (w.alloc (.cells L.toArray e)) := by
  cases hq : P.info? e with
  | none => simp [hq] at hi
  | some i =>
    simp [hq] at hi
    obtain ⟨hz, hs⟩ := hi
    have hsz : ((Array.range (1 * L.length)).map (Z[· % Z.size]!)).size = L.length := by simp
    have hf := fold_whole L _ hsz
    have e1 : Instr.fill (fun i => some (i * L.length, L.length)) ((Array.range (1 * L.length)).map (Z[· % Z.size]!)) [(0, .agg L.toArray)] = some L.toArray := by
      unfold Instr.fill
      simp only []
      split
      · rename_i h
        exfalso
        simp [Value.cells] at h
      · unfold Instr.fill
        rw [Nat.zero_mul]
        exact congrArg some hf
    have g1 : ¬ 16777216 < L.length := by omega
    have g2 : ¬ L.length = 0 := by omega
    simp only [Nat.one_mul] at e1
    simp [Instr.buildSlice, underlying, sizeOf, typeInfo, zeroValue, hu, hq, hz, hs, g1, Value.cells, newRow]
    rw [if_neg (by intro h; simp [h] at h0), e1]
    simp
theorem wpList_build_one {P : Program} {ops : Array Oper} {rest : List Oper} {op : Oper} {a : Act} {w : World} {Q : Exit → Act → World → Prop} (hgd : op.guard = none) (t e : TypeId) (y : Operand) (ho : op.op = .buildSlice t 1 #[(0, y)])
    (Z : Array Value) (L : List Value) (hy : a.eval y = .agg L.toArray) (hu : P.underlying t = some (.slice e)) (hi : (P.info? e).map (fun i => (i.zero, i.size)) = some (some (.agg Z), L.length)) (h0 : 0 < L.length) (h2 : L.length ≤ 1000)
    (h : wpList P ops Q rest (a.put op.dst (.slice (some ⟨w.heap.size, 0, none⟩) 1 1)) (w.alloc (.cells L.toArray e))) : wpList P ops Q (op :: rest) a w :=
  wpList_plain hgd fun _ hK => by
    unfold Oper.wp execOp
    have := build_one_run (P := P) w t e L Z hu hi h0 h2
    simp only [ho, List.map_toArray, List.map_cons, List.map_nil, hy, Sem.run_bind, Sem.run_pure, this, Result.andThen_ok]
    exact hK _ _ h

end Go.Proofs.Ythlhbjnkohinmaa

/- The program's instantiations: the facts of a class. -/
namespace Go.Proofs.Ythlhbjnkohinmaa
open Go.RowKit

theorem rowf_at {α : Type} {f : α → List Value} {m : Nat} (hf : ∀ a, (f a).length = m) : ∀ (l : List α) (k : Nat) (hk : k < l.length) (j : Nat) (v : Value), (f l[k])[j]? = some v → (l.flatMap f)[k * m + j]? = some v
  | a :: l, 0, _, j, v, h => by
    have hj : j < (f a).length := (List.getElem?_eq_some_iff.1 h).1
    rw [List.flatMap_cons, Nat.zero_mul, Nat.zero_add, List.getElem?_append_left hj]
    exact h
  | a :: l, k + 1, hk, j, v, h => by
    rw [List.flatMap_cons, List.getElem?_append_right (by rw [hf, Nat.add_mul]; omega), hf, show (k + 1) * m + j - m = k * m + j by rw [Nat.add_mul]; omega]
    exact rowf_at hf l k (by simpa using hk) j v h
/-- One of a row, as a range. -/
theorem row_range {α : Type} {f : α → List Value} {m : Nat} (hf : ∀ a, (f a).length = m) {w : World} {g : Nat} {l : List α} (hc : ∀ i v, (l.flatMap f)[i]? = some v → w.cell? ⟨g, i, none⟩ = some v) {k : Nat} (hk : k < l.length) : w.rangeAt g (k * m) (f l[k]) :=
  fun j v hv => hc _ _ (rowf_at hf l k hk j v hv)
theorem fcCells_flat (l : List PFact) : fcCells l = l.flatMap facL := rfl
theorem facL_len (q : PFact) : (facL q).length = 4 := rfl
/-- Those of a class. -/
def ofCl (F : List PFact) (cl : Int) : List PFact := F.filter fun q => decide ((q.1 : Int) / 10 = cl)
theorem ofCl_succ (F : List PFact) (cl : Int) (k : Nat) (hk : k < F.length) : ofCl (F.take (k + 1)) cl = ofCl (F.take k) cl ++ (if (F[k].1 : Int) / 10 = cl then [F[k]] else []) := by
  unfold ofCl
  rw [List.take_succ_eq_append_getElem hk, List.filter_append]
  congr 1
  simp only [List.filter_cons, List.filter_nil]
  by_cases h : (F[k].1 : Int) / 10 = cl <;> simp [h]
theorem ofCl_le (F : List PFact) (cl : Int) : (ofCl F cl).length ≤ F.length := List.length_filter_le _ _

set_option maxRecDepth 20000 in
set_option maxHeartbeats 1000000 in
theorem pofclass_any (F : List PFact) (cl : Int) (fa : Option Addr) (fc B : Nat) (w : World) (hFl : F.length ≤ 60) (hrow : w.ownsRow B 97 4 (.slice fa F.length fc) F.length (fcCells F)) :
    Calls Try.prog 84 #[.slice fa F.length fc, .int .i64 cl] w fun e w' => ∃ v, e = .returned v ∧ w'.ownsRow w.heap.size 97 4 v (ofCl F cl).length (fcCells (ofCl F cl)) ∧ w.grownBy w' none := by
  obtain ⟨i0, hi0, hz0, hz1, hz2⟩ := info_parts Try.info97
  have HROW := hid hrow
  clear hrow
  go_enter Try.func84, Try.ntmps84
  go_wp2_with fail
  go_loopw [5, 10] (fun t i wr => ∃ k : Nat, k ≤ F.length ∧ i = .int .i64 k ∧ wr.ownsRow w.heap.size 97 4 t (ofCl (F.take k) cl).length (fcCells (ofCl (F.take k) cl)) ∧ w.grownBy wr none) (fun _ i _ => F.length - (intOf i).toNat)
  case atStart => exact ⟨0, by omega, rfl, World.ownsRow_nil _ _ _ _, grown_refl _ _⟩
  case round =>
    obtain ⟨k, hk, rfl, hown, hg⟩ := hrel
    have HG := hid hg
    have HOW := hid hown
    by_cases hlt : k < F.length
    · have how := own_kept HROW.out hg (fun g hg => by cases hg)
      obtain ⟨gf, rfl, _, _, hgl, hcell⟩ := own_cell how (by omega)
      obtain ⟨L, hL⟩ : ∃ L, L = facL F[k] := ⟨_, rfl⟩
      have HRG : Hid (wr.rangeAt gf (k * 4) L) := hid (by rw [hL]; exact row_range facL_len hcell hlt)
      have hLl : L.length = 4 := by rw [hL]; rfl
      have HIL : Hid ((Try.prog.info? 97).map (·.size) = some L.length) := hid (by rw [hLl]; exact info_fact)
      have HIZ : Hid ((Try.prog.info? 97).map (fun i => (i.zero, i.size)) = some (some (.agg #[.int .i64 0, .int .i64 0, .int .i64 0, .int .i64 0]), L.length)) := hid (by rw [hLl]; kernel_rfl)
      have HON : Hid (∀ u ∈ L, u.oneCell' = true) := hid (by rw [hL]; exact facL_one _)
      have HONA : Hid (L.toArray.all (·.oneCell') = true) := hid (all_oneCell_toArray HON.out)
      have HBN : Hid ((wr.alloc (.cells L.toArray 97)).heap[wr.heap.size]? = some (.cells L.toArray 97 (0, 0))) := hid (heap_alloc_new wr _)
      obtain ⟨cv, hcv⟩ : ∃ cv : Int, cv = (F[k].1 : Int) / 10 := ⟨_, rfl⟩
      have k0 : (wr.alloc (.cells L.toArray 97)).cell? ⟨wr.heap.size, 0, none⟩ = some (.int .i64 cv) := by
        rw [cell_of_row _ _ _ _ _ _ HBN.out, hL, hcv]
        rfl
      have HRN : Hid ((wr.alloc (.cells L.toArray 97)).rangeAt wr.heap.size 0 L) := hid (range_of_blk HBN.out rfl)
      have hjl := Nat.le_trans (ofCl_le (F.take k) cl) (List.length_take_le k F)
      obtain ⟨a, m, c, rfl⟩ := own_slice hown
      have em := own_len hown
      subst em
      have hsz := hg.size
      have hne : gf ≠ wr.heap.size := by omega
      have HSUC := hid (ofCl_succ F cl k hlt)
      rw [← hcv] at HSUC
      have HFIN : Hid (cv = cl → ∀ (w3 : World) (v' : Value), w3.ownsRow w.heap.size 97 4 v' ((ofCl (F.take k) cl).length + 1) (fcCells (ofCl (F.take k) cl) ++ L) → w3.ownsRow w.heap.size 97 4 v' (ofCl (F.take (k + 1)) cl).length (fcCells (ofCl (F.take (k + 1)) cl))) := hid (fun e w3 v' h => by
        rw [HSUC.out, if_pos e, fcCells_snoc, List.length_append]
        rw [hL] at h
        exact h)
      have HSKIP : Hid (cv ≠ cl → ofCl (F.take (k + 1)) cl = ofCl (F.take k) cl) := hid (fun e => by rw [HSUC.out, if_neg e]; simp)
      have HWG : Hid (∀ o, wr.grownBy (wr.alloc o) none) := hid (fun o => grown_alloc (grown_refl _ _) o)
      have HOWG : Hid (∀ W, wr.grownBy W none → W.ownsRow w.heap.size 97 4 (.slice a (ofCl (F.take k) cl).length c) (ofCl (F.take k) cl).length (fcCells (ofCl (F.take k) cl))) := hid (fun W hW => own_kept HOW.out hW (fun g hg => by cases hg))
      have how1 := HOWG.out _ (grown_alloc (HWG.out (.cells L.toArray 97)) (.cells L.toArray 97))
      have HLT := hid (fun g hg => (HOW.out.lt g hg).1)
      obtain ⟨nl, hnl⟩ : ∃ nl, nl = (ofCl (F.take k) cl).length := ⟨_, rfl⟩
      obtain ⟨xs, hxs⟩ : ∃ xs, xs = fcCells (ofCl (F.take k) cl) := ⟨_, rfl⟩
      rw [← hnl] at HFIN HOWG HOW HLT hjl how1 ⊢
      rw [← hxs] at HFIN HOWG HOW how1
      have HNL := hid hnl
      have HXS := hid hxs
      clear hnl hxs HSUC hL how hcell hown hg hcv
      by_cases he : cv = cl
      · have q : (cv == cl) = true := by simpa using he
        have HFI := hid (HFIN.out he)
        clear he HFIN HSKIP
        go_wp2_with (first
          | (refine wpList_load_mid rfl 97 (.tmp 12) rfl gf (k * 4) rfl L _ HRG.out Try.underlying97 rfl HIL.out ?_)
          | (refine wpList_store_new rfl 97 (.tmp 7) (.tmp 13) rfl _ L rfl rfl hLl.symm HIL.out HONA.out ?_)
          | (refine wpList_load_mid rfl 97 (.tmp 7) rfl wr.heap.size 0 rfl L _ HRN.out Try.underlying97 rfl HIL.out ?_)
          | (refine wpList_build_one rfl 94 97 (.tmp 19) rfl _ L rfl Try.underlying94 HIZ.out (by omega) (by omega) ?_)
          | (at_builtin; refine wpList_append_own _ rfl (.tmp 18) (.tmp 20) 94 rfl (w.heap.size) 97 i0 (.agg #[.int .i64 0, .int .i64 0, .int .i64 0, .int .i64 0]) 4 32 Try.underlying94 hi0 hz0 hz1 hz2 rfl (by decide) _ _ _ rfl how1 _ 1 1 L rfl (by omega) (fun j u hj => news_at1 hj) HON.out (by unfold maxLen; omega) (by omega) (by simp; omega) ?_))
        intro v' w3 hown3 hg3 _
        have HO3 := hid hown3
        have HG3 := hid hg3
        clear hown3 hg3
        go_wp2_with fail
        go_roundw
        case rel => exact ⟨k + 1, by omega, by go_num, HFI.out _ _ HO3.out, grown_own2 (grown_trans HG.out (grown_alloc (HWG.out _) _)) HG3.out HLT.out⟩
        case measure => simp [intOf]; omega
      · have q : (cv == cl) = false := by simpa using he
        have HSK := hid (HSKIP.out he)
        clear he HFIN HSKIP
        go_wp2_with (first
          | (refine wpList_load_mid rfl 97 (.tmp 12) rfl gf (k * 4) rfl L _ HRG.out Try.underlying97 rfl HIL.out ?_)
          | (refine wpList_store_new rfl 97 (.tmp 7) (.tmp 13) rfl _ L rfl rfl hLl.symm HIL.out HONA.out ?_))
        go_roundw
        case rel => exact ⟨k + 1, by omega, by go_num, by rw [HSK.out, ← HNL.out, ← HXS.out]; exact HOWG.out _ (HWG.out _), grown_trans HG.out (HWG.out _)⟩
        case measure => simp [intOf]; omega
    · have hkl : k = F.length := by omega
      subst hkl
      rw [List.take_length] at HOW
      clear hg hown
      go_wp2_with fail
      go_ret
      exact ⟨_, rfl, HOW.out, HG.out⟩

end Go.Proofs.Ythlhbjnkohinmaa

/- The program's versions in memory: a sweep. -/
namespace Go.Proofs.Ythlhbjnkohinmaa
open Go.RowKit

def verL (p : Int × Option Int) : List Value := [.int .i64 p.1, .bool p.2.isSome, .int .i64 (p.2.getD 0)]
theorem hv_range {w : World} {g : Nat} {l : Hist} (hc : ∀ i v, (hvCells l)[i]? = some v → w.cell? ⟨g, i, none⟩ = some v) {k : Nat} (hk : k < l.length) : w.rangeAt g (k * 3) (verL l[k]) := by
  intro j v hv
  obtain ⟨h0, h1, h2⟩ := hvCells_at l k hk
  match j, hv with
  | 0, hv => exact hc _ _ (h0.trans hv)
  | 1, hv => exact hc _ _ (h1.trans hv)
  | 2, hv => exact hc _ _ (h2.trans hv)
  | j + 3, hv => simp [verL] at hv
theorem filter_succ {α : Type} (P : α → Bool) (l : List α) (k : Nat) (hk : k < l.length) : (l.take (k + 1)).filter P = (l.take k).filter P ++ (if P l[k] then [l[k]] else []) := by
  rw [List.take_succ_eq_append_getElem hk, List.filter_append]
  congr 1
  simp only [List.filter_cons, List.filter_nil]
theorem info_ver : (Try.prog.info? 108).map (·.size) = some 3 := by kernel_rfl

set_option maxRecDepth 20000 in
set_option maxHeartbeats 2000000 in
theorem hsweep_core (b o : Nat) (l : Hist) (t : Int) (a : Option Addr) (cp : Nat) (cs : Array Value) (ty : TypeId) (w : World) (hl : (l.length + 1) * 24 ≤ 140737488355328)
    (hb : w.heap[b]? = some (.cells cs ty (0, 0))) (hc : w.cell? ⟨b, o + 1, none⟩ = some (.slice a l.length cp)) (hrow : w.ownsRow 0 108 3 (.slice a l.length cp) l.length (hvCells l)) :
    Calls Try.prog 64 #[.pointer (some ⟨b, o, none⟩), .int .i64 t] w fun e w' => e = .returned (.int .i64 ((l.length : Int) - ((sweptH l t).length : Int))) ∧
      ∃ v w3, w3.ownsRow w.heap.size 108 3 v (sweptH l t).length (hvCells (sweptH l t)) ∧ w.grownBy w3 none ∧ w' = w3.setCell ⟨b, o + 1, none⟩ v := by
  obtain ⟨i0, hi0, hz0, hz1, hz2⟩ := info_parts Try.info108
  have hbl := lt_of_block hb
  have HAT := hid (hat_any b o l t a l.length cp w (by omega) hc hrow)
  have HROW := hid hrow
  have HC := hid hc
  have HB := hid hb
  have HBB : Hid (∀ p, baseB l t p = (decide (t < p.1) || (decide (p.1 = (histV l t).1) && p.2.isSome))) := hid (fun _ => rfl)
  have HSW : Hid (sweptH l t = l.filter (baseB l t)) := hid rfl
  generalize hP : baseB l t = P at HBB HSW
  generalize hbv : histV l t = bv at HAT HBB
  obtain ⟨bs, bq⟩ := bv
  unfold versV at HAT
  simp only at HAT HBB
  obtain ⟨bf, hbf⟩ : ∃ bf, bf = bq.isSome := ⟨_, rfl⟩
  obtain ⟨bw, hbw⟩ : ∃ bw, bw = bq.getD 0 := ⟨_, rfl⟩
  rw [← hbf, ← hbw] at HAT
  rw [HSW.out]
  clear hrow hc hb hP hbv hbf hbw HSW
  go_enter Try.func64, Try.ntmps64
  go_wp2_with fail
  go_at_call 60
  refine HAT.out.mono ?_
  rintro e w1 ⟨rfl, hg1⟩
  have hs1 := hg1.size
  have hc1 := grown_cell hg1 HC.out
  have HG1 := hid hg1
  clear hg1 HAT
  have hbz1 : b ≠ w1.heap.size := by omega
  have hbs : (w1.alloc (.cells #[.int .i64 bs, .bool bf, .int .i64 bw] 108)).cell? ⟨w1.heap.size, 0, none⟩ = some (.int .i64 bs) := by rw [cell_of_row _ _ _ _ _ _ (heap_alloc_new w1 _)]; rfl
  have HBS := hid hbs
  have HGW : Hid (w.grownBy (w1.alloc (.cells #[.int .i64 bs, .bool bf, .int .i64 bw] 108)) none) := hid (grown_alloc HG1.out _)
  have hc2 := grown_cell HGW.out HC.out
  clear hbs hc1
  go_wp2_with fail
  generalize hW0 : w1.alloc (.cells #[.int .i64 bs, .bool bf, .int .i64 bw] 108) = W0 at HBS HGW ⊢
  have hs0 : w1.heap.size < W0.heap.size := by rw [← hW0]; simp
  clear hW0 HG1
  go_loopw [6, 19] (fun t i wr => ∃ k : Nat, k ≤ l.length ∧ i = .int .i64 k ∧ wr.ownsRow W0.heap.size 108 3 t ((l.take k).filter P).length (hvCells ((l.take k).filter P)) ∧ W0.grownBy wr none) (fun _ i _ => l.length - (intOf i).toNat)
  case atStart => exact ⟨0, by omega, rfl, World.ownsRow_nil _ _ _ _, grown_refl _ _⟩
  case round =>
    obtain ⟨k, hk, rfl, hown, hg⟩ := hrel
    have HG := hid hg
    have HOW := hid hown
    by_cases hlt : k < l.length
    · have how := own_kept HROW.out (grown_trans HGW.out hg) (fun g hg => by cases hg)
      obtain ⟨gf, rfl, _, _, hgl, hcell⟩ := own_cell how (by omega)
      obtain ⟨L, hL⟩ : ∃ L, L = verL l[k] := ⟨_, rfl⟩
      have HRG : Hid (wr.rangeAt gf (k * 3) L) := hid (by rw [hL]; exact hv_range hcell hlt)
      have hLl : L.length = 3 := by rw [hL]; rfl
      have HIL : Hid ((Try.prog.info? 108).map (·.size) = some L.length) := hid (by rw [hLl]; exact info_ver)
      have HIZ : Hid ((Try.prog.info? 108).map (fun i => (i.zero, i.size)) = some (some (.agg #[.int .i64 0, .bool false, .int .i64 0]), L.length)) := hid (by rw [hLl]; kernel_rfl)
      have HON : Hid (∀ u ∈ L, u.oneCell' = true) := hid (by
        rw [hL]
        intro u hu
        simp [verL] at hu
        rcases hu with h | h | h <;> subst h <;> rfl)
      have HONA : Hid (L.toArray.all (·.oneCell') = true) := hid (all_oneCell_toArray HON.out)
      have HBN : Hid ((wr.alloc (.cells L.toArray 108)).heap[wr.heap.size]? = some (.cells L.toArray 108 (0, 0))) := hid (heap_alloc_new wr _)
      obtain ⟨st, hst⟩ : ∃ st : Int, st = l[k].1 := ⟨_, rfl⟩
      obtain ⟨fl, hfl⟩ : ∃ fl : Bool, fl = l[k].2.isSome := ⟨_, rfl⟩
      have k0 : (wr.alloc (.cells L.toArray 108)).cell? ⟨wr.heap.size, 0, none⟩ = some (.int .i64 st) := by
        rw [cell_of_row _ _ _ _ _ _ HBN.out, hL, hst]
        rfl
      have k1 : (wr.alloc (.cells L.toArray 108)).cell? ⟨wr.heap.size, 1, none⟩ = some (.bool fl) := by
        rw [cell_of_row _ _ _ _ _ _ HBN.out, hL, hfl]
        rfl
      have kb : (wr.alloc (.cells L.toArray 108)).cell? ⟨w1.heap.size, 0, none⟩ = some (.int .i64 bs) := grown_cell (grown_alloc HG.out _) HBS.out
      have HRN : Hid ((wr.alloc (.cells L.toArray 108)).rangeAt wr.heap.size 0 L) := hid (range_of_blk HBN.out rfl)
      have hjl : ((l.take k).filter P).length ≤ k := Nat.le_trans (List.length_filter_le _ _) (List.length_take_le k l)
      obtain ⟨a2, m, c, rfl⟩ := own_slice hown
      have em := own_len hown
      subst em
      have hsz := hg.size
      have hne : gf ≠ wr.heap.size := by omega
      have hne1 : w1.heap.size ≠ wr.heap.size := by omega
      have HSUC := hid (filter_succ P l k hlt)
      have HBK : Hid (P l[k] = (decide (t < st) || (decide (st = bs) && fl))) := hid (by rw [HBB.out, ← hst, ← hfl])
      have HFIN : Hid (P l[k] = true → ∀ (w3 : World) (v' : Value), w3.ownsRow W0.heap.size 108 3 v' (((l.take k).filter P).length + 1) (hvCells ((l.take k).filter P) ++ L) → w3.ownsRow W0.heap.size 108 3 v' ((l.take (k + 1)).filter P).length (hvCells ((l.take (k + 1)).filter P))) := hid (fun e w3 v' h => by
        rw [HSUC.out, if_pos e, hvCells_snoc, List.length_append]
        rw [hL] at h
        exact h)
      have HSKIP : Hid (P l[k] = false → (l.take (k + 1)).filter P = (l.take k).filter P) := hid (fun e => by rw [HSUC.out, e]; simp)
      rw [HBK.out] at HFIN HSKIP
      have HWG : Hid (∀ o, wr.grownBy (wr.alloc o) none) := hid (fun o => grown_alloc (grown_refl _ _) o)
      have HOWG : Hid (∀ W, wr.grownBy W none → W.ownsRow W0.heap.size 108 3 (.slice a2 ((l.take k).filter P).length c) ((l.take k).filter P).length (hvCells ((l.take k).filter P))) := hid (fun W hW => own_kept HOW.out hW (fun g hg => by cases hg))
      have how1 := HOWG.out _ (grown_alloc (HWG.out (.cells L.toArray 108)) (.cells L.toArray 108))
      have HLT := hid (fun g hg => (HOW.out.lt g hg).1)
      obtain ⟨nl, hnl⟩ : ∃ nl, nl = ((l.take k).filter P).length := ⟨_, rfl⟩
      obtain ⟨xs, hxs⟩ : ∃ xs, xs = hvCells ((l.take k).filter P) := ⟨_, rfl⟩
      rw [← hnl] at HFIN HOWG HOW HLT hjl how1 ⊢
      rw [← hxs] at HFIN HOWG HOW how1
      have HNL := hid hnl
      have HXS := hid hxs
      clear hnl hxs HSUC hL how hcell hown hg hst hfl HBK
      by_cases he : st = bs
      · have q : (st == bs) = true := by simpa using he
        cases fl with
        | true =>
          by_cases hg2 : t < st
          · have HFI := hid (HFIN.out (by simp [hg2]))
            clear he HFIN HSKIP
            go_wp2_with (first
              | (refine wpList_load_mid rfl 108 (.tmp 21) rfl gf (k * 3) rfl L _ HRG.out Try.underlying108 rfl HIL.out ?_)
              | (refine wpList_store_new rfl 108 (.tmp 8) (.tmp 22) rfl _ L rfl rfl hLl.symm HIL.out HONA.out ?_)
              | (refine wpList_load_mid rfl 108 (.tmp 8) rfl wr.heap.size 0 rfl L _ HRN.out Try.underlying108 rfl HIL.out ?_)
              | (refine wpList_build_one rfl 86 108 (.tmp 41) rfl _ L rfl Try.underlying86 HIZ.out (by omega) (by omega) ?_)
              | (at_builtin; refine wpList_append_own _ rfl (.tmp 40) (.tmp 42) 86 rfl (W0.heap.size) 108 i0 (.agg #[.int .i64 0, .bool false, .int .i64 0]) 3 24 Try.underlying86 hi0 hz0 hz1 hz2 rfl (by decide) _ _ _ rfl how1 _ 1 1 L rfl (by omega) (fun j u hj => news_at1 hj) HON.out (by unfold maxLen; omega) (by omega) (by simp; omega) ?_))
            intro v' w3 hown3 hg3 _
            have HO3 := hid hown3
            have HG3 := hid hg3
            clear hown3 hg3
            go_wp2_with fail
            go_roundw
            case rel => exact ⟨k + 1, by omega, by go_num, HFI.out _ _ HO3.out, grown_own2 (grown_trans HG.out (grown_alloc (HWG.out _) _)) HG3.out HLT.out⟩
            case measure => simp [intOf]; omega
          · have HFI := hid (HFIN.out (by simp [he]))
            clear he HFIN HSKIP
            go_wp2_with (first
              | (refine wpList_load_mid rfl 108 (.tmp 21) rfl gf (k * 3) rfl L _ HRG.out Try.underlying108 rfl HIL.out ?_)
              | (refine wpList_store_new rfl 108 (.tmp 8) (.tmp 22) rfl _ L rfl rfl hLl.symm HIL.out HONA.out ?_)
              | (refine wpList_load_mid rfl 108 (.tmp 8) rfl wr.heap.size 0 rfl L _ HRN.out Try.underlying108 rfl HIL.out ?_)
              | (refine wpList_build_one rfl 86 108 (.tmp 41) rfl _ L rfl Try.underlying86 HIZ.out (by omega) (by omega) ?_)
              | (at_builtin; refine wpList_append_own _ rfl (.tmp 40) (.tmp 42) 86 rfl (W0.heap.size) 108 i0 (.agg #[.int .i64 0, .bool false, .int .i64 0]) 3 24 Try.underlying86 hi0 hz0 hz1 hz2 rfl (by decide) _ _ _ rfl how1 _ 1 1 L rfl (by omega) (fun j u hj => news_at1 hj) HON.out (by unfold maxLen; omega) (by omega) (by simp; omega) ?_))
            intro v' w3 hown3 hg3 _
            have HO3 := hid hown3
            have HG3 := hid hg3
            clear hown3 hg3
            go_wp2_with fail
            go_roundw
            case rel => exact ⟨k + 1, by omega, by go_num, HFI.out _ _ HO3.out, grown_own2 (grown_trans HG.out (grown_alloc (HWG.out _) _)) HG3.out HLT.out⟩
            case measure => simp [intOf]; omega
        | false =>
          by_cases hg2 : t < st
          · have HFI := hid (HFIN.out (by simp [hg2]))
            clear he HFIN HSKIP
            go_wp2_with (first
              | (refine wpList_load_mid rfl 108 (.tmp 21) rfl gf (k * 3) rfl L _ HRG.out Try.underlying108 rfl HIL.out ?_)
              | (refine wpList_store_new rfl 108 (.tmp 8) (.tmp 22) rfl _ L rfl rfl hLl.symm HIL.out HONA.out ?_)
              | (refine wpList_load_mid rfl 108 (.tmp 8) rfl wr.heap.size 0 rfl L _ HRN.out Try.underlying108 rfl HIL.out ?_)
              | (refine wpList_build_one rfl 86 108 (.tmp 41) rfl _ L rfl Try.underlying86 HIZ.out (by omega) (by omega) ?_)
              | (at_builtin; refine wpList_append_own _ rfl (.tmp 40) (.tmp 42) 86 rfl (W0.heap.size) 108 i0 (.agg #[.int .i64 0, .bool false, .int .i64 0]) 3 24 Try.underlying86 hi0 hz0 hz1 hz2 rfl (by decide) _ _ _ rfl how1 _ 1 1 L rfl (by omega) (fun j u hj => news_at1 hj) HON.out (by unfold maxLen; omega) (by omega) (by simp; omega) ?_))
            intro v' w3 hown3 hg3 _
            have HO3 := hid hown3
            have HG3 := hid hg3
            clear hown3 hg3
            go_wp2_with fail
            go_roundw
            case rel => exact ⟨k + 1, by omega, by go_num, HFI.out _ _ HO3.out, grown_own2 (grown_trans HG.out (grown_alloc (HWG.out _) _)) HG3.out HLT.out⟩
            case measure => simp [intOf]; omega
          · have HSK := hid (HSKIP.out (by simp [hg2]))
            clear he HFIN HSKIP
            go_wp2_with (first
              | (refine wpList_load_mid rfl 108 (.tmp 21) rfl gf (k * 3) rfl L _ HRG.out Try.underlying108 rfl HIL.out ?_)
              | (refine wpList_store_new rfl 108 (.tmp 8) (.tmp 22) rfl _ L rfl rfl hLl.symm HIL.out HONA.out ?_))
            go_roundw
            case rel => exact ⟨k + 1, by omega, by go_num, by rw [HSK.out, ← HNL.out, ← HXS.out]; exact HOWG.out _ (HWG.out _), grown_trans HG.out (HWG.out _)⟩
            case measure => simp [intOf]; omega
      · have q : (st == bs) = false := by simpa using he
        by_cases hg2 : t < st
        · have HFI := hid (HFIN.out (by simp [hg2]))
          clear he HFIN HSKIP
          go_wp2_with (first
            | (refine wpList_load_mid rfl 108 (.tmp 21) rfl gf (k * 3) rfl L _ HRG.out Try.underlying108 rfl HIL.out ?_)
            | (refine wpList_store_new rfl 108 (.tmp 8) (.tmp 22) rfl _ L rfl rfl hLl.symm HIL.out HONA.out ?_)
            | (refine wpList_load_mid rfl 108 (.tmp 8) rfl wr.heap.size 0 rfl L _ HRN.out Try.underlying108 rfl HIL.out ?_)
            | (refine wpList_build_one rfl 86 108 (.tmp 41) rfl _ L rfl Try.underlying86 HIZ.out (by omega) (by omega) ?_)
            | (at_builtin; refine wpList_append_own _ rfl (.tmp 40) (.tmp 42) 86 rfl (W0.heap.size) 108 i0 (.agg #[.int .i64 0, .bool false, .int .i64 0]) 3 24 Try.underlying86 hi0 hz0 hz1 hz2 rfl (by decide) _ _ _ rfl how1 _ 1 1 L rfl (by omega) (fun j u hj => news_at1 hj) HON.out (by unfold maxLen; omega) (by omega) (by simp; omega) ?_))
          intro v' w3 hown3 hg3 _
          have HO3 := hid hown3
          have HG3 := hid hg3
          clear hown3 hg3
          go_wp2_with fail
          go_roundw
          case rel => exact ⟨k + 1, by omega, by go_num, HFI.out _ _ HO3.out, grown_own2 (grown_trans HG.out (grown_alloc (HWG.out _) _)) HG3.out HLT.out⟩
          case measure => simp [intOf]; omega
        · have HSK := hid (HSKIP.out (by simp [hg2, he]))
          clear he HFIN HSKIP
          go_wp2_with (first
            | (refine wpList_load_mid rfl 108 (.tmp 21) rfl gf (k * 3) rfl L _ HRG.out Try.underlying108 rfl HIL.out ?_)
            | (refine wpList_store_new rfl 108 (.tmp 8) (.tmp 22) rfl _ L rfl rfl hLl.symm HIL.out HONA.out ?_))
          go_roundw
          case rel => exact ⟨k + 1, by omega, by go_num, by rw [HSK.out, ← HNL.out, ← HXS.out]; exact HOWG.out _ (HWG.out _), grown_trans HG.out (HWG.out _)⟩
          case measure => simp [intOf]; omega
    · have hkl : k = l.length := by omega
      subst hkl
      rw [List.take_length] at HOW hown
      have hcw := grown_cell (grown_trans HGW.out hg) HC.out
      have hbw : wr.heap[b]? = some (.cells cs ty (0, 0)) := ((grown_trans HGW.out hg).block b hbl (by simp)).trans HB.out
      have z0 := frozen_blk hbw (o + 1)
      obtain ⟨a2, m, c, rfl⟩ := own_slice hown
      have em := own_len hown
      subst em
      have hle : (l.filter P).length ≤ l.length := List.length_filter_le _ _
      have HFI : Hid (wr.ownsRow w.heap.size 108 3 (.slice a2 (l.filter P).length c) (l.filter P).length (hvCells (l.filter P))) := hid (own_mono HOW.out (by have := HGW.out.size; omega))
      have HGF := hid (grown_trans HGW.out hg)
      obtain ⟨nf, hnf⟩ : ∃ nf, nf = (l.filter P).length := ⟨_, rfl⟩
      rw [← hnf] at HFI hle ⊢
      have HNF := hid hnf
      clear hg hown hbw HOW hnf
      go_wp2_with fail
      go_ret
      rw [← HNF.out]
      exact ⟨by go_num, _, _, HFI.out, HGF.out, rfl⟩

end Go.Proofs.Ythlhbjnkohinmaa
