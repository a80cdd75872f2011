import Derived.Test.YthlhbjnkohinmaaPart06
import Derived.Test.YthlhbjnkohinmaaPart02
/- The program's memory: the place of an instantiation; nothing is fired where there are no marks. -/
namespace Go.Proofs.Ythlhbjnkohinmaa
open Go.RowKit

/-- Digits as a number. -/
def plD (f : Nat → Int) : Nat → Int
  | 0 => 0
  | k + 1 => plD f k * 10 + f k
theorem plD_bd {f : Nat → Int} (hf : ∀ k, 0 ≤ f k ∧ f k ≤ 9) (n : Nat) (hn : n ≤ 3) : 0 ≤ plD f n ∧ plD f n ≤ 999 := by
  have h0 := hf 0
  have h1 := hf 1
  have h2 := hf 2
  match n, hn with
  | 0, _ => simp [plD]
  | 1, _ => simp only [plD]; omega
  | 2, _ => simp only [plD]; omega
  | 3, _ => simp only [plD]; omega
def dgA (l : List PFact) (k : Nat) : Int := ((ftA l k).1 : Int) % 10
theorem dgA_bd (l : List PFact) (k : Nat) : 0 ≤ dgA l k ∧ dgA l k ≤ 9 := by unfold dgA; omega
/-- Where the mark of an instantiation stands. -/
def plcI (i : In) : Int := i.rule * 1000 + plD (dgA i.facts) i.facts.length

set_option maxRecDepth 20000 in
set_option maxHeartbeats 1000000 in
theorem pplace_cells (L : List Value) (r n : Nat) (f : Nat → Int) (w : World) (hr : r < 9) (hn : n ≤ 3) (hf : ∀ k, 0 ≤ f k ∧ f k ≤ 9) (k0 : L[0]? = some (.int .i64 r)) (k3 : L[3]? = some (.int .i64 n)) (kd : ∀ k, k < 3 → L[4 + k * 4 + 1]? = some (.int .i64 (f k))) :
    Calls Try.prog 76 #[.agg L.toArray] w fun e w' => e = .returned (.tuple #[.int .i64 (r * 1000 + plD f n), .bool true]) ∧ w.grownBy w' none := by
  have hb : (w.alloc (.cells L.toArray 138)).heap[w.heap.size]? = some (.cells L.toArray 138 (0, 0)) := heap_alloc_new w _
  have c0 : (w.alloc (.cells L.toArray 138)).cell? ⟨w.heap.size, 0, none⟩ = some (.int .i64 r) := cell_list hb k0
  have c3 : (w.alloc (.cells L.toArray 138)).cell? ⟨w.heap.size, 3, none⟩ = some (.int .i64 n) := cell_list hb k3
  have HD : Hid (∀ k, k < 3 → (w.alloc (.cells L.toArray 138)).cell? ⟨w.heap.size, 4 + k * 4 + 1, none⟩ = some (.int .i64 (f k))) := hid (fun k hk => cell_list hb (kd k hk))
  have HF := hid hf
  have HG : Hid (w.grownBy (w.alloc (.cells L.toArray 138)) none) := hid (grown_alloc (grown_refl _ _) _)
  obtain ⟨res, hres⟩ : ∃ res : Int, res = r * 1000 + plD f n := ⟨_, rfl⟩
  rw [← hres]
  have HRES := hid hres
  clear hb k0 k3 kd hf hres
  go_enter Try.func76, Try.ntmps76
  go_wp2_with fail
  generalize w.alloc (.cells L.toArray 138) = W at c0 c3 HD HG ⊢
  generalize w.heap.size = b at c0 c3 HD ⊢
  go_loop [4, 5] (fun t i => ∃ k : Nat, k ≤ n ∧ i = .int .i64 k ∧ t = .int .i64 (plD f k)) (fun _ i => n - (intOf i).toNat)
  case atStart => exact ⟨0, by omega, rfl, rfl⟩
  case round =>
    obtain ⟨k, hk, rfl, rfl⟩ := hrel
    have hp := plD_bd HF.out k (by omega)
    by_cases hlt : k < n
    · have d := HD.out k (by omega)
      have hfk := HF.out k
      have hk3 : (k : Int) < 3 := by omega
      have hk0 : (0 : Int) ≤ (k : Int) := by omega
      have HS : Hid (plD f (k + 1) = plD f k * 10 + f k) := hid rfl
      obtain ⟨pv, hpv⟩ : ∃ pv, pv = plD f k := ⟨_, rfl⟩
      obtain ⟨fk, hfk'⟩ : ∃ fk, fk = f k := ⟨_, rfl⟩
      rw [← hpv, ← hfk'] at HS
      rw [← hpv] at hp ⊢
      rw [← hfk'] at hfk d
      clear hpv hfk'
      go_wp2_with fail
      go_round
      case rel => exact ⟨k + 1, by omega, by go_num, by rw [HS.out]⟩
      case measure => simp [intOf]; omega
    · have e : k = n := by omega
      subst e
      obtain ⟨pv, hpv⟩ : ∃ pv, pv = plD f k := ⟨_, rfl⟩
      rw [← hpv] at hp HRES ⊢
      clear hpv
      go_wp2_with fail
      go_ret2
      exact ⟨by rw [HRES.out]; rfl, HG.out⟩
theorem pplace_any (wt : Int) (i : In) (w : World) (hr : i.rule < 9) (hl : i.facts.length ≤ 3) :
    Calls Try.prog 76 #[.agg (inCells wt i).toArray] w fun e w' => e = .returned (.tuple #[.int .i64 (plcI i), .bool true]) ∧ w.grownBy w' none :=
  pplace_cells (inCells wt i) i.rule i.facts.length (dgA i.facts) w hr hl (dgA_bd i.facts) rfl rfl (fun k hk => by
    match k, hk with
    | 0, _ => rfl
    | 1, _ => rfl
    | 2, _ => rfl)

set_option maxRecDepth 20000 in
set_option maxHeartbeats 1000000 in
theorem phas_none (wt : Int) (i : In) (x o : Nat) (w : World) (hr : i.rule < 9) (hl : i.facts.length ≤ 3) (hm : w.cell? ⟨x, o, none⟩ = some (.slice none 0 0)) :
    Calls Try.prog 58 #[.pointer (some ⟨x, o, none⟩), .agg (inCells wt i).toArray] w fun e w' => e = .returned (.bool false) ∧ w.grownBy w' none := by
  have HP : Hid (∀ W, Calls Try.prog 76 #[.agg (inCells wt i).toArray] W fun e w' => e = .returned (.tuple #[.int .i64 (plcI i), .bool true]) ∧ W.grownBy w' none) := hid (fun W => pplace_any wt i W hr hl)
  have hp : 0 ≤ plcI i ∧ plcI i ≤ 8999 := by
    have := plD_bd (dgA_bd i.facts) i.facts.length hl
    unfold plcI
    omega
  obtain ⟨L, hL⟩ : ∃ L, L = inCells wt i := ⟨_, rfl⟩
  have hLl : L.length = 24 := by rw [hL]; rfl
  rw [← hL] at HP ⊢
  obtain ⟨pv, hpv⟩ : ∃ pv, pv = plcI i := ⟨_, rfl⟩
  rw [← hpv] at HP hp
  have HIL : Hid ((Try.prog.info? 138).map (·.size) = some L.length) := hid (by rw [hLl]; exact info_inst)
  have HRL : Hid ((w.alloc (.cells L.toArray 138)).rangeAt w.heap.size 0 L) := hid (range_of_blk (heap_alloc_new w _) rfl)
  have HM := hid hm
  clear hL hpv hm
  go_enter Try.func58, Try.ntmps58
  go_wp2_with (first
    | (refine wpList_load_mid rfl 138 (.tmp 3) rfl w.heap.size 0 rfl L _ HRL.out Try.underlying138 rfl HIL.out ?_))
  go_at_call 76
  refine (HP.out _).mono ?_
  rintro e w1 ⟨rfl, hg1⟩
  have HG1 := hid (grown_trans (grown_alloc (grown_refl w none) _) hg1)
  have hm1 := grown_cell HG1.out HM.out
  have hp0 := hp.1
  clear hg1
  go_wp2_with fail
  go_ret
  exact ⟨rfl, HG1.out⟩

end Go.Proofs.Ythlhbjnkohinmaa

/- The program's instantiations: of one rule. -/
namespace Go.Proofs.Ythlhbjnkohinmaa
open Go.RowKit

/-- The instantiations over the first k conditions. -/
def insK (s : ByteArray) (F : List PFact) (r : Nat) (L : List Nat) (k : Nat) : List In := (L.take k).foldl (onC 0 s F) [In.start r]
theorem insK_succ (s : ByteArray) (F : List PFact) (r : Nat) (L : List Nat) (k : Nat) (hk : k < L.length) : insK s F r L (k + 1) = onC 0 s F (insK s F r L k) L[k] := by
  unfold insK
  rw [List.take_succ_eq_append_getElem hk, List.foldl_append]
  rfl
theorem insK_all (s : ByteArray) (F : List PFact) (r : Nat) (L : List Nat) : insK s F r L L.length = instR 0 s F r L := by
  unfold insK instR
  rw [List.take_length]
theorem cls33 {c : Int} (h : clsB c = true) : c ≠ 33 := by intro e; subst e; simp [clsB] at h
theorem patCount_take (s : ByteArray) (L : List Nat) (k : Nat) (hk : k < L.length) : patCount s (L.take (k + 1)) = patCount s (L.take k) + (if (cdV s L[k]).k = 1 then 1 else 0) := by
  unfold patCount
  rw [List.take_succ_eq_append_getElem hk, List.filter_append, List.length_append]
  congr 1
  simp only [List.filter_cons, List.filter_nil]
  by_cases h : (cdV s L[k]).k = 1 <;> simp [h]
theorem patCount_sub (s : ByteArray) (L : List Nat) (k : Nat) : patCount s (L.take k) ≤ patCount s L := by
  unfold patCount
  exact List.Sublist.length_le ((List.take_sublist k L).filter _)
/-- How many there are, and of how many facts each, by the patterns that were met. -/
theorem insK_len {s : ByteArray} {F : List PFact} (hF : F.length ≤ 60) (r : Nat) {L : List Nat} (hL : ∀ p ∈ L, cdOk s p = true) : ∀ k, k ≤ L.length → (insK s F r L k).length ≤ 60 ^ patCount s (L.take k) ∧ ∀ i ∈ insK s F r L k, i.facts.length = patCount s (L.take k) ∧ i.rule = r
  | 0, _ => by simp [insK, patCount, In.start]
  | k + 1, hk => by
    obtain ⟨h1, h2⟩ := insK_len hF r hL k (by omega)
    have hlt : k < L.length := by omega
    have hok := hL _ (List.getElem_mem hlt)
    have hck := cls_kind hok
    rw [insK_succ s F r L k hlt, patCount_take s L k hlt]
    unfold onC
    by_cases h33 : bt s L[k] = 33
    · have hc : clsB (bt s L[k]) = false := by rw [h33]; rfl
      rw [if_pos h33, if_neg (by rw [hck, hc]; simp)]
      exact ⟨Nat.le_trans (List.length_filter_le _ _) h1, fun i hi => h2 i (List.mem_filter.mp hi).1⟩
    · rw [if_neg h33]
      by_cases hc : clsB (bt s L[k]) = true
      · rw [if_pos hc, if_pos (hck.mpr hc)]
        refine ⟨?_, fun i hi => ?_⟩
        · have := flatMap_len (m := 60) (fun i => Nat.le_trans (onP_len F (bt s L[k]) (bt s (L[k] + 1)) (bt s (L[k] + 2)) i) hF) (insK s F r L k)
          rw [Nat.pow_succ]
          exact Nat.le_trans this (Nat.mul_le_mul_right 60 h1)
        · obtain ⟨j, hj, hm⟩ := List.mem_flatMap.mp hi
          unfold onP at hm
          obtain ⟨q, _, hq⟩ := List.mem_filterMap.mp hm
          cases hg : goP j.env (bt s L[k]) (bt s (L[k] + 1)) (bt s (L[k] + 2)) q with
          | none => rw [hg] at hq; cases hq
          | some e =>
            rw [hg] at hq
            simp only [Option.map_some, Option.some.injEq] at hq
            rw [← hq]
            have := h2 j hj
            simp [this]
      · rw [if_neg hc, if_neg (by rw [hck]; exact hc)]
        exact ⟨Nat.le_trans (List.length_filter_le _ _) h1, fun i hi => h2 i (List.mem_filter.mp hi).1⟩
theorem insK_le {s : ByteArray} {F : List PFact} (hF : F.length ≤ 60) (r : Nat) {L : List Nat} (hL : ∀ p ∈ L, cdOk s p = true) (hp : patCount s L ≤ 3) (k : Nat) (hk : k ≤ L.length) : (insK s F r L k).length ≤ 216000 := by
  have h1 := (insK_len hF r hL k hk).1
  have h2 := patCount_sub s L k
  have h3 : 60 ^ patCount s (L.take k) ≤ 60 ^ 3 := Nat.pow_le_pow_right (by omega) (by omega)
  omega
theorem insK_pat {s : ByteArray} {F : List PFact} (hF : F.length ≤ 60) (r : Nat) {L : List Nat} (hL : ∀ p ∈ L, cdOk s p = true) (hp : patCount s L ≤ 3) (k : Nat) (hk : k < L.length) (hc : clsB (bt s L[k]) = true) : (insK s F r L k).length ≤ 3600 ∧ ∀ i ∈ insK s F r L k, i.facts.length < 3 := by
  obtain ⟨h1, h2⟩ := insK_len hF r hL k (by omega)
  have h4 := patCount_sub s L (k + 1)
  have hok := hL _ (List.getElem_mem hk)
  rw [patCount_take s L k hk, if_pos ((cls_kind hok).mpr hc)] at h4
  have h3 : 60 ^ patCount s (L.take k) ≤ 60 ^ 2 := Nat.pow_le_pow_right (by omega) (by omega)
  refine ⟨by omega, fun i hi => ?_⟩
  have := (h2 i hi).1
  omega

/-- A condition's cells. -/
def cdL (s : ByteArray) (p : Nat) : List Value := [.int .i64 (cdV s p).k, .int .i64 (cdV s p).c, .int .u8 (cdV s p).g, .int .i64 (cdV s p).a1, .int .i64 (cdV s p).a2, .int .i64 (cdV s p).b1, .int .i64 (cdV s p).b2]
theorem cdL_len (s : ByteArray) (p : Nat) : (cdL s p).length = 7 := rfl
theorem cdL_one (s : ByteArray) (p : Nat) : ∀ v ∈ cdL s p, v.oneCell' = true := by
  intro v hv
  simp only [cdL, List.mem_cons, List.not_mem_nil, or_false] at hv
  rcases hv with h | h | h | h | h | h | h <;> rw [h] <;> rfl
theorem cdL_neg {s : ByteArray} {p : Nat} (h : bt s p = 33) : .agg (cdL s p).toArray = condV 2 (bt s (p + 1)) 0 (bt s (p + 2)) (bt s (p + 3)) ∧ (cdV s p).k = 2 := by
  have e : cdV s p = patV 2 s (p + 1) := by simp [cdV, h]
  unfold cdL
  rw [e]
  exact ⟨rfl, rfl⟩
theorem cdL_pat {s : ByteArray} {p : Nat} (h : clsB (bt s p) = true) : .agg (cdL s p).toArray = condV 1 (bt s p) 0 (bt s (p + 1)) (bt s (p + 2)) ∧ (cdV s p).k = 1 := by
  have e : cdV s p = patV 1 s p := by simp [cdV, cls33 h, h]
  unfold cdL
  rw [e]
  exact ⟨rfl, rfl⟩
theorem cdL_tst {s : ByteArray} {p : Nat} (h33 : bt s p ≠ 33) (h : clsB (bt s p) = false) : .agg (cdL s p).toArray = testV 3 0 (bt s (p + 1)) (bt s p) (bt s (p + 2)) ∧ (cdV s p).k = 3 := by
  have e : cdV s p = tstV s p := by simp [cdV, h33, h]
  unfold cdL
  rw [e]
  exact ⟨rfl, rfl⟩
theorem cdOk_neg {s : ByteArray} {p : Nat} (hok : cdOk s p = true) (h : bt s p = 33) : terB (bt s (p + 2)) = true ∧ terB (bt s (p + 3)) = true := by
  unfold cdOk at hok
  rw [if_pos h] at hok
  unfold patLen at hok
  split at hok
  · split at hok
    · split at hok
      · rename_i h1 h2; exact ⟨h1, h2⟩
      · simp at hok
    · simp at hok
  · simp at hok
theorem cdOk_pat {s : ByteArray} {p : Nat} (hok : cdOk s p = true) (h : clsB (bt s p) = true) : terB (bt s (p + 1)) = true ∧ terB (bt s (p + 2)) = true := by
  unfold cdOk at hok
  rw [if_neg (cls33 h), if_pos h] at hok
  unfold patLen at hok
  split at hok
  · split at hok
    · split at hok
      · rename_i h1 h2; exact ⟨h1, h2⟩
      · simp at hok
    · simp at hok
  · rename_i h9
    exact absurd h h9
theorem cdOk_tst {s : ByteArray} {p : Nat} (hok : cdOk s p = true) (h33 : bt s p ≠ 33) (h : clsB (bt s p) = false) : simB (bt s p) = true ∧ sgnB (bt s (p + 1)) = true ∧ simB (bt s (p + 2)) = true := by
  unfold cdOk at hok
  rw [if_neg h33, h, if_neg (by simp)] at hok
  unfold tstLen at hok
  split at hok
  · split at hok
    · split at hok
      · rename_i h1 h2 h3; exact ⟨h1, h2, h3⟩
      · simp at hok
    · simp at hok
  · simp at hok

end Go.Proofs.Ythlhbjnkohinmaa

/- The program's instantiations: of one rule, the walk. -/
namespace Go.Proofs.Ythlhbjnkohinmaa
open Go.RowKit

theorem pown_one {w : World} {e : TypeId} {base size : Nat} {cs : List Value} (hb : base ≤ w.heap.size) (hs : cs.length = size) : (w.alloc (.cells cs.toArray e)).ownsRow base e size (.slice (some ⟨w.heap.size, 0, none⟩) 1 1) 1 cs :=
  ⟨by simp [hs], .inr ⟨w.heap.size, 1, cs.toArray, rfl, hb, heap_alloc_new w _, Nat.le_refl 1, by unfold maxLen; omega, by simp [hs], by simp [← hs]⟩⟩

set_option maxRecDepth 20000 in
set_option maxHeartbeats 1000000 in
theorem pcomplete_any (s : ByteArray) (F : List PFact) (r : Nat) (L : List Nat) (wt : Int) (a1 a2 fa : Option Addr) (c1 m2 c2 fc B B2 : Nat) (w : World) (hLo : ∀ p ∈ L, cdOk s p = true) (hp3 : patCount s L ≤ 3) (hLl : L.length ≤ 400)
    (hrow : w.ownsRow B 163 7 (.slice a1 L.length c1) L.length (cdsCells s L)) (hFl : F.length ≤ 60) (hfr : w.ownsRow B2 97 4 (.slice fa F.length fc) F.length (fcCells F)) :
    Calls Try.prog 57 #[.int .i64 r, .agg #[.int .i64 wt, .slice a1 L.length c1, .slice a2 m2 c2], .slice fa F.length fc] w fun e w' => ∃ v, e = .returned v ∧ w'.ownsRow w.heap.size 138 24 v (instR 0 s F r L).length (insC wt (instR 0 s F r L)) ∧ w.grownBy w' none := by
  have HROW := hid hrow
  have HFR := hid hfr
  rw [← insK_all]
  obtain ⟨D, hD⟩ : ∃ D, D = inCells wt (In.start r) := ⟨_, rfl⟩
  have hDl : D.length = 24 := by rw [hD]; rfl
  have HDA : Hid (Value.agg #[.int .i64 r, .int .i64 wt, .int .i64 0, .int .i64 0, .int .i64 0, .int .i64 0, .int .i64 0, .int .i64 0, .int .i64 0, .int .i64 0, .int .i64 0, .int .i64 0, .int .i64 0, .int .i64 0, .int .i64 0, .int .i64 0, .bool false, .bool false, .bool false, .bool false, .int .i64 0, .int .i64 0, .int .i64 0, .int .i64 0] = .agg D.toArray) := hid (by rw [hD]; simp [inCells, In.start, latF, ftA, dB, dI])
  have HIZ : Hid ((Try.prog.info? 138).map (fun i => (i.zero, i.size)) = some (some (.agg #[.int .i64 0, .int .i64 0, .int .i64 0, .int .i64 0, .int .i64 0, .int .i64 0, .int .i64 0, .int .i64 0, .int .i64 0, .int .i64 0, .int .i64 0, .int .i64 0, .int .i64 0, .int .i64 0, .int .i64 0, .int .i64 0, .bool false, .bool false, .bool false, .bool false, .int .i64 0, .int .i64 0, .int .i64 0, .int .i64 0]), D.length)) := hid (by rw [hDl]; kernel_rfl)
  have HST : Hid (((w.alloc (.cells #[.int .i64 wt, .slice a1 L.length c1, .slice a2 m2 c2] 130)).alloc (.cells D.toArray 138)).ownsRow w.heap.size 138 24 (.slice (some ⟨w.heap.size + 1, 0, none⟩) 1 1) (insK s F r L 0).length (insC wt (insK s F r L 0))) := hid (by
    have := pown_one (w := w.alloc (.cells #[.int .i64 wt, .slice a1 L.length c1, .slice a2 m2 c2] 130)) (e := 138) (base := w.heap.size) (cs := D) (by simp) hDl
    rw [show (w.alloc (.cells #[.int .i64 wt, .slice a1 L.length c1, .slice a2 m2 c2] 130)).heap.size = w.heap.size + 1 by simp] at this
    rw [hD] at this ⊢
    simpa [insK, insC] using this)
  have HSG : Hid (w.grownBy ((w.alloc (.cells #[.int .i64 wt, .slice a1 L.length c1, .slice a2 m2 c2] 130)).alloc (.cells D.toArray 138)) none) := hid (grown_alloc (grown_alloc (grown_refl _ _) _) _)
  clear hrow hfr hD
  go_enter Try.func57, Try.ntmps57
  go_wp2_with (first
    | (refine wpList_build_one rfl 102 138 (.tmp 13) rfl _ D HDA.out Try.underlying102 HIZ.out (by omega) (by omega) ?_))
  go_loopw [7, 18] (fun t i wr => ∃ k : Nat, k ≤ L.length ∧ i = .int .i64 k ∧ wr.ownsRow w.heap.size 138 24 t (insK s F r L k).length (insC wt (insK s F r L k)) ∧ w.grownBy wr none) (fun _ i _ => L.length - (intOf i).toNat)
  case atStart => exact ⟨0, by omega, rfl, HST.out, HSG.out⟩
  case round =>
    obtain ⟨k, hk, rfl, hown, hg⟩ := hrel
    have HG := hid hg
    have HOW := hid hown
    by_cases hlt : k < L.length
    · have how := own_kept HROW.out hg (fun g hg => by cases hg)
      obtain ⟨gf, rfl, _, _, hgl, hcell⟩ := own_cell how (by omega)
      obtain ⟨C, hC⟩ : ∃ C, C = cdL s L[k] := ⟨_, rfl⟩
      have HRG : Hid (wr.rangeAt gf (k * 7) C) := hid (by rw [hC]; exact row_range (cdL_len s) hcell hlt)
      have hCl : C.length = 7 := by rw [hC]; rfl
      have HIC : Hid ((Try.prog.info? 163).map (·.size) = some C.length) := hid (by rw [hCl]; exact info_cond)
      have HONA : Hid (C.toArray.all (·.oneCell') = true) := hid (all_oneCell_toArray (by rw [hC]; exact cdL_one _ _))
      have HBN : Hid ((wr.alloc (.cells C.toArray 163)).heap[wr.heap.size]? = some (.cells C.toArray 163 (0, 0))) := hid (heap_alloc_new wr _)
      have HRC : Hid ((wr.alloc (.cells C.toArray 163)).rangeAt wr.heap.size 0 C) := hid (range_of_blk HBN.out rfl)
      have hsz := hg.size
      have hok := hLo _ (List.getElem_mem hlt)
      obtain ⟨a, m, cc, rfl⟩ := own_slice hown
      have em := own_len hown
      subst em
      by_cases h33 : bt s L[k] = 33
      · obtain ⟨HV, HK⟩ := cdL_neg h33
        obtain ⟨t1, t2⟩ := cdOk_neg hok h33
        have k0 : (wr.alloc (.cells C.toArray 163)).cell? ⟨wr.heap.size, 0, none⟩ = some (.int .i64 2) := cell_list HBN.out (by rw [hC, cdL, HK]; rfl)
        have HX : Hid (Calls Try.prog 74 #[.slice a (insK s F r L k).length cc, .agg C.toArray, .slice fa F.length fc] (wr.alloc (.cells C.toArray 163)) fun e w' => ∃ v, e = .returned v ∧ w'.ownsRow (wr.alloc (.cells C.toArray 163)).heap.size 138 24 v (insK s F r L (k + 1)).length (insC wt (insK s F r L (k + 1))) ∧ (wr.alloc (.cells C.toArray 163)).grownBy w' none) := hid (by
          rw [hC, HV, insK_succ s F r L k hlt]
          unfold onC
          rw [if_pos h33]
          exact pwithout_any wt (insK s F r L k) a cc w.heap.size 2 (bt s (L[k] + 1)) 0 (bt s (L[k] + 2)) (bt s (L[k] + 3)) F fa fc B2 _ (Nat.le_trans (insK_le hFl r hLo hp3 k hk) (by omega)) (own_kept HOW.out (grown_alloc (grown_refl wr none) _) (fun g hg => by cases hg)) t1 t2 hFl (own_kept HFR.out (grown_trans HG.out (grown_alloc (grown_refl wr none) _)) (fun g hg => by cases hg)))
        obtain ⟨nl, hnl⟩ : ∃ nl, nl = (insK s F r L k).length := ⟨_, rfl⟩
        rw [← hnl] at HX ⊢
        clear hnl hC HV HK hok how hcell hown hg
        go_wp2_with (first
          | (refine wpList_load_mid rfl 163 (.tmp 20) rfl gf (k * 7) rfl C _ HRG.out Try.underlying163 rfl HIC.out ?_)
          | (refine wpList_store_new rfl 163 (.tmp 9) (.tmp 21) rfl _ C rfl rfl hCl.symm HIC.out HONA.out ?_)
          | (refine wpList_load_mid rfl 163 (.tmp 9) rfl wr.heap.size 0 rfl C _ HRC.out Try.underlying163 rfl HIC.out ?_))
        go_at_call 74
        refine HX.out.mono ?_
        rintro e w1 ⟨v, rfl, ho1, hg1⟩
        have HO1 := hid (own_mono ho1 (show w.heap.size ≤ (wr.alloc (.cells C.toArray 163)).heap.size by simp; omega))
        have HG1 : Hid (w.grownBy w1 none) := hid (grown_trans HG.out (grown_trans (grown_alloc (grown_refl _ _) _) hg1))
        clear ho1 hg1
        go_wp2_with fail
        go_roundw
        case rel => exact ⟨k + 1, by omega, by go_num, HO1.out, HG1.out⟩
        case measure => simp [intOf]; omega
      · by_cases hc : clsB (bt s L[k]) = true
        · obtain ⟨HV, HK⟩ := cdL_pat hc
          obtain ⟨t1, t2⟩ := cdOk_pat hok hc
          obtain ⟨l1, l2⟩ := insK_pat hFl r hLo hp3 k hlt hc
          have k0 : (wr.alloc (.cells C.toArray 163)).cell? ⟨wr.heap.size, 0, none⟩ = some (.int .i64 1) := cell_list HBN.out (by rw [hC, cdL, HK]; rfl)
          have HX : Hid (Calls Try.prog 73 #[.slice a (insK s F r L k).length cc, .agg C.toArray, .slice fa F.length fc] (wr.alloc (.cells C.toArray 163)) fun e w' => ∃ v, e = .returned v ∧ w'.ownsRow (wr.alloc (.cells C.toArray 163)).heap.size 138 24 v (insK s F r L (k + 1)).length (insC wt (insK s F r L (k + 1))) ∧ (wr.alloc (.cells C.toArray 163)).grownBy w' none) := hid (by
            rw [hC, HV, insK_succ s F r L k hlt]
            unfold onC
            rw [if_neg h33, if_pos hc]
            exact pextended_any wt (insK s F r L k) a cc w.heap.size 1 (bt s L[k]) 0 (bt s (L[k] + 1)) (bt s (L[k] + 2)) F fa fc B2 _ l1 l2 (own_kept HOW.out (grown_alloc (grown_refl wr none) _) (fun g hg => by cases hg)) t1 t2 hFl (own_kept HFR.out (grown_trans HG.out (grown_alloc (grown_refl wr none) _)) (fun g hg => by cases hg)))
          obtain ⟨nl, hnl⟩ : ∃ nl, nl = (insK s F r L k).length := ⟨_, rfl⟩
          rw [← hnl] at HX ⊢
          clear hnl hC HV HK hok how hcell hown hg
          go_wp2_with (first
            | (refine wpList_load_mid rfl 163 (.tmp 20) rfl gf (k * 7) rfl C _ HRG.out Try.underlying163 rfl HIC.out ?_)
            | (refine wpList_store_new rfl 163 (.tmp 9) (.tmp 21) rfl _ C rfl rfl hCl.symm HIC.out HONA.out ?_)
            | (refine wpList_load_mid rfl 163 (.tmp 9) rfl wr.heap.size 0 rfl C _ HRC.out Try.underlying163 rfl HIC.out ?_))
          go_at_call 73
          refine HX.out.mono ?_
          rintro e w1 ⟨v, rfl, ho1, hg1⟩
          have HO1 := hid (own_mono ho1 (show w.heap.size ≤ (wr.alloc (.cells C.toArray 163)).heap.size by simp; omega))
          have HG1 : Hid (w.grownBy w1 none) := hid (grown_trans HG.out (grown_trans (grown_alloc (grown_refl _ _) _) hg1))
          clear ho1 hg1
          go_wp2_with fail
          go_roundw
          case rel => exact ⟨k + 1, by omega, by go_num, HO1.out, HG1.out⟩
          case measure => simp [intOf]; omega
        · have hcf : clsB (bt s L[k]) = false := by simpa using hc
          obtain ⟨HV, HK⟩ := cdL_tst h33 hcf
          obtain ⟨t1, t2, t3⟩ := cdOk_tst hok h33 hcf
          have k0 : (wr.alloc (.cells C.toArray 163)).cell? ⟨wr.heap.size, 0, none⟩ = some (.int .i64 3) := cell_list HBN.out (by rw [hC, cdL, HK]; rfl)
          have HX : Hid (Calls Try.prog 75 #[.slice a (insK s F r L k).length cc, .agg C.toArray] (wr.alloc (.cells C.toArray 163)) fun e w' => ∃ v, e = .returned v ∧ w'.ownsRow (wr.alloc (.cells C.toArray 163)).heap.size 138 24 v (insK s F r L (k + 1)).length (insC wt (insK s F r L (k + 1))) ∧ (wr.alloc (.cells C.toArray 163)).grownBy w' none) := hid (by
            rw [hC, HV, insK_succ s F r L k hlt]
            unfold onC
            rw [if_neg h33, if_neg hc]
            exact pholding_any wt (insK s F r L k) a cc w.heap.size 3 0 (bt s (L[k] + 1)) (bt s L[k]) (bt s (L[k] + 2)) _ (Nat.le_trans (insK_le hFl r hLo hp3 k hk) (by omega)) (own_kept HOW.out (grown_alloc (grown_refl wr none) _) (fun g hg => by cases hg)) t2 t1 t3)
          obtain ⟨nl, hnl⟩ : ∃ nl, nl = (insK s F r L k).length := ⟨_, rfl⟩
          rw [← hnl] at HX ⊢
          clear hnl hC HV HK hok how hcell hown hg
          go_wp2_with (first
            | (refine wpList_load_mid rfl 163 (.tmp 20) rfl gf (k * 7) rfl C _ HRG.out Try.underlying163 rfl HIC.out ?_)
            | (refine wpList_store_new rfl 163 (.tmp 9) (.tmp 21) rfl _ C rfl rfl hCl.symm HIC.out HONA.out ?_)
            | (refine wpList_load_mid rfl 163 (.tmp 9) rfl wr.heap.size 0 rfl C _ HRC.out Try.underlying163 rfl HIC.out ?_))
          go_at_call 75
          refine HX.out.mono ?_
          rintro e w1 ⟨v, rfl, ho1, hg1⟩
          have HO1 := hid (own_mono ho1 (show w.heap.size ≤ (wr.alloc (.cells C.toArray 163)).heap.size by simp; omega))
          have HG1 : Hid (w.grownBy w1 none) := hid (grown_trans HG.out (grown_trans (grown_alloc (grown_refl _ _) _) hg1))
          clear ho1 hg1
          go_wp2_with fail
          go_roundw
          case rel => exact ⟨k + 1, by omega, by go_num, HO1.out, HG1.out⟩
          case measure => simp [intOf]; omega
    · have hkl : k = L.length := by omega
      subst hkl
      clear hg hown
      go_wp2_with fail
      go_ret
      exact ⟨_, rfl, HOW.out, HG.out⟩

end Go.Proofs.Ythlhbjnkohinmaa

/- The program's instantiations: those that are open. -/
namespace Go.Proofs.Ythlhbjnkohinmaa
open Go.RowKit

/-- The cells of instantiations of all rules. -/
def insW (wt : Nat → Int) (l : List In) : List Value := l.flatMap fun i => inCells (wt i.rule) i
theorem insW_app (wt : Nat → Int) (l m : List In) : insW wt (l ++ m) = insW wt l ++ insW wt m := by simp [insW]
theorem insW_one (wt : Nat → Int) (i : In) : insW wt [i] = inCells (wt i.rule) i := by simp [insW]
theorem own_kept_ne {w w' : World} {base : Nat} {e : TypeId} {size : Nat} {v : Value} {n : Nat} {xs : List Value} {row : Option Nat} (h : w.ownsRow base e size v n xs) (hg : w.grownBy w' row)
    (hne : ∀ g, v.ownBlock = some g → row ≠ some g) : w'.ownsRow base e size v n xs := by
  obtain ⟨h1, h2⟩ := h
  refine ⟨h1, ?_⟩
  rcases h2 with h2 | ⟨g, cap, cur, rfl, hb, hh, h3⟩
  · exact .inl h2
  · exact .inr ⟨g, cap, cur, rfl, hb, (hg.block g (lt_of_block hh) (fun e => hne g rfl e.symm)).trans hh, h3⟩
/-- What is open of the first k rules, and of the first j of the next one's. -/
def opN (s : ByteArray) (F : List PFact) (R : List RuleP) (fd : In → Bool) (k : Nat) : List In := (instN 0 s F R k).filter fun i => !fd i
def opJ (s : ByteArray) (F : List PFact) (R : List RuleP) (fd : In → Bool) (k : Nat) (IR : List In) (j : Nat) : List In := opN s F R fd k ++ (IR.take j).filter fun i => !fd i
theorem opJ_zero (s : ByteArray) (F : List PFact) (R : List RuleP) (fd : In → Bool) (k : Nat) (IR : List In) : opJ s F R fd k IR 0 = opN s F R fd k := by simp [opJ]
theorem opJ_succ (s : ByteArray) (F : List PFact) (R : List RuleP) (fd : In → Bool) (k : Nat) (IR : List In) (j : Nat) (hj : j < IR.length) : opJ s F R fd k IR (j + 1) = opJ s F R fd k IR j ++ (if fd IR[j] then [] else [IR[j]]) := by
  unfold opJ
  rw [pfilter_take _ _ _ hj, List.append_assoc]
  congr 2
  cases fd IR[j] <;> rfl
theorem opJ_all (s : ByteArray) (F : List PFact) (R : List RuleP) (fd : In → Bool) (k : Nat) (hk : k < R.length) : opJ s F R fd k (instR 0 s F k R[k].2.1) (instR 0 s F k R[k].2.1).length = opN s F R fd (k + 1) := by
  unfold opJ opN
  rw [List.take_length, instN_succ, List.filter_append]
  simp [List.getD, List.getElem?_eq_getElem hk]
/-- What a rule is, for the walk. -/
structure RulW (s : ByteArray) (r : RuleP) : Prop where
  conds : ∀ p ∈ r.2.1, cdOk s p = true
  pats : patCount s r.2.1 ≤ 3
  len : r.2.1.length ≤ 400
theorem instR_le {s : ByteArray} {F : List PFact} (hF : F.length ≤ 60) (k : Nat) {r : RuleP} (h : RulW s r) : (instR 0 s F k r.2.1).length ≤ 216000 := by
  rw [← insK_all]
  exact insK_le hF k h.conds h.pats _ (Nat.le_refl _)
theorem instR_mem {s : ByteArray} {F : List PFact} (hF : F.length ≤ 60) (k : Nat) {r : RuleP} (h : RulW s r) : ∀ i ∈ instR 0 s F k r.2.1, i.facts.length ≤ 3 ∧ i.rule = k := by
  rw [← insK_all]
  intro i hi
  have h1 := (insK_len hF k h.conds _ (Nat.le_refl _)).2 i hi
  have h2 := patCount_sub s r.2.1 r.2.1.length
  exact ⟨by have := h.pats; omega, h1.2⟩
theorem instN_le {s : ByteArray} {F : List PFact} (hF : F.length ≤ 60) {R : List RuleP} (hR : ∀ r ∈ R, RulW s r) : ∀ k, k ≤ R.length → (instN 0 s F R k).length ≤ k * 216000
  | 0, _ => by simp [instN]
  | k + 1, hk => by
    have hlt : k < R.length := by omega
    have h1 := instN_le hF hR k (by omega)
    have h2 := instR_le hF k (hR _ (List.getElem_mem hlt))
    have e : R.getD k (0, [], []) = R[k] := by simp [List.getD, List.getElem?_eq_getElem hlt]
    rw [instN_succ, e, List.length_append]
    omega
theorem opJ_le {s : ByteArray} {F : List PFact} (hF : F.length ≤ 60) {R : List RuleP} (hR : ∀ r ∈ R, RulW s r) (hR9 : R.length ≤ 9) (fd : In → Bool) (k : Nat) (hk : k < R.length) (j : Nat) : (opJ s F R fd k (instR 0 s F k R[k].2.1) j).length ≤ 2160000 := by
  unfold opJ opN
  have h1 := instN_le hF hR k (by omega)
  have h2 := instR_le hF k (hR _ (List.getElem_mem hk))
  have h3 := List.length_filter_le (fun i => !fd i) (instN 0 s F R k)
  have h4 := List.length_filter_le (fun i => !fd i) ((instR 0 s F k R[k].2.1).take j)
  have h5 := List.length_take_le' j (instR 0 s F k R[k].2.1)
  rw [List.length_append]
  omega
theorem insC_W {wt : Nat → Int} {k : Nat} : ∀ {l : List In}, (∀ i ∈ l, i.rule = k) → insC (wt k) l = insW wt l
  | [], _ => rfl
  | i :: l, h => by
    have h1 := insC_W (wt := wt) (k := k) (l := l) (fun j hj => h j (by simp [hj]))
    unfold insC insW at h1 ⊢
    rw [List.flatMap_cons, List.flatMap_cons, h1, h i (by simp)]

set_option maxRecDepth 20000 in
set_option maxHeartbeats 2000000 in
theorem popens_any (s : ByteArray) (F : List PFact) (R : List RuleP) (ra fa : Option Addr) (rc fc B B2 x o : Nat) (fd : In → Bool) (w : World) (hR : ∀ r ∈ R, RulW s r) (hR9 : R.length ≤ 9)
    (hrow : RulesOwn w B s (.slice ra R.length rc) R) (hFl : F.length ≤ 60) (hfr : w.ownsRow B2 97 4 (.slice fa F.length fc) F.length (fcCells F))
    (HHAS : Hid (∀ (k : Nat) (hk : k < R.length) (i : In) (W : World), i ∈ instR 0 s F k R[k].2.1 → w.grownBy W none → Calls Try.prog 58 #[.pointer (some ⟨x, o, none⟩), .agg (inCells (wgt s R k) i).toArray] W fun e w' => e = .returned (.bool (fd i)) ∧ W.grownBy w' none)) :
    Calls Try.prog 37 #[.slice ra R.length rc, .slice fa F.length fc, .pointer (some ⟨x, o, none⟩)] w fun e w' => ∃ v, e = .returned v ∧ w'.ownsRow w.heap.size 138 24 v (opN s F R fd R.length).length (insW (wgt s R) (opN s F R fd R.length)) ∧ w.grownBy w' none := by
  obtain ⟨i0, hi0, hz0, hz1, hz2⟩ := info_parts Try.infoI
  obtain ⟨xs0, hrow1, hpar⟩ := hrow
  have HROW := hid hrow1
  have HPAR := hid hpar
  have HFR := hid hfr
  have HR := hid hR
  clear hrow1 hpar hfr hR
  go_enter Try.func37, Try.ntmps37
  go_wp2_with fail
  go_loopw [7, 15] (fun t i wr => ∃ k : Nat, k ≤ R.length ∧ i = .int .i64 k ∧ wr.ownsRow w.heap.size 138 24 t (opN s F R fd k).length (insW (wgt s R) (opN s F R fd k)) ∧ w.grownBy wr none) (fun _ i _ => R.length - (intOf i).toNat)
  case atStart => exact ⟨0, by omega, rfl, World.ownsRow_nil _ _ _ _, grown_refl _ _⟩
  case round =>
    obtain ⟨k, hk, rfl, hown, hg⟩ := hrel
    have HG := hid hg
    have HOW := hid hown
    by_cases hlt : k < R.length
    · have hrw := HR.out _ (List.getElem_mem hlt)
      obtain ⟨a1, m1, c1, a2, m2, c2, x0, x1, x2, o1, o2⟩ := Parts_at R xs0 HPAR.out k hlt
      have em1 := own_len o1
      subst em1
      obtain ⟨gr, hra, _, _, hgr, hrcell⟩ := own_cell HROW.out (by omega)
      subst hra
      obtain ⟨wk, hwk⟩ : ∃ wk : Int, wk = bt s R[k].1 - 48 := ⟨_, rfl⟩
      have hwg : wgt s R k = wk := by rw [hwk]; simp [wgt, List.getD, List.getElem?_eq_getElem hlt]
      have d0 := grown_cell hg (hrcell _ _ x0)
      have d1 := grown_cell hg (hrcell _ _ x1)
      have d2 := grown_cell hg (hrcell _ _ x2)
      rw [← hwk] at d0
      obtain ⟨m1, hm1⟩ : ∃ m1, m1 = R[k].2.1.length := ⟨_, rfl⟩
      rw [← hm1] at d1
      obtain ⟨IR, hIR⟩ : ∃ IR, IR = instR 0 s F k R[k].2.1 := ⟨_, rfl⟩
      have HCO : Hid (∀ W, w.grownBy W none → Calls Try.prog 57 #[.int .i64 k, .agg #[.int .i64 wk, .slice a1 m1 c1, .slice a2 m2 c2], .slice fa F.length fc] W fun e w' => ∃ v, e = .returned v ∧ w'.ownsRow W.heap.size 138 24 v IR.length (insC wk IR) ∧ W.grownBy w' none) := hid (fun W hW => by
        rw [hIR, hm1]
        exact pcomplete_any s F k R[k].2.1 wk a1 a2 fa c1 m2 c2 fc B B2 W hrw.conds hrw.pats hrw.len (own_kept o1 hW (fun g hg => by cases hg)) hFl (own_kept HFR.out hW (fun g hg => by cases hg)))
      have HHK := hid (HHAS.out k hlt)
      rw [← hIR, hwg] at HHK
      have HIRL : IR.length ≤ 216000 := by rw [hIR]; exact instR_le hFl k hrw
      have HIRR : Hid (∀ i ∈ IR, i.rule = k) := hid (by rw [hIR]; exact fun i hi => (instR_mem hFl k hrw i hi).2)
      have HJS := hid (opJ_succ s F R fd k IR)
      have HJA : Hid (opJ s F R fd k IR IR.length = opN s F R fd (k + 1)) := hid (by rw [hIR]; exact opJ_all s F R fd k hlt)
      have HJL : Hid (∀ j, (opJ s F R fd k IR j).length ≤ 2160000) := hid (fun j => by rw [hIR]; exact opJ_le hFl HR.out hR9 fd k hlt j)
      have hsz := hg.size
      have hne : gr ≠ wr.heap.size := by omega
      have hgl : gr < wr.heap.size := by omega
      obtain ⟨a, m, cc, rfl⟩ := own_slice hown
      have em := own_len hown
      subst em
      have HST : Hid (∀ W, wr.grownBy W none → W.ownsRow w.heap.size 138 24 (.slice a (opN s F R fd k).length cc) (opJ s F R fd k IR 0).length (insW (wgt s R) (opJ s F R fd k IR 0))) := hid (fun W hW => by
        rw [opJ_zero]
        exact own_kept HOW.out hW (fun g hg => by cases hg))
      have HSL : Hid (∀ g, (Value.slice a (opN s F R fd k).length cc).ownBlock = some g → g < wr.heap.size) := hid (fun g hg => (HOW.out.lt g hg).2)
      have HWGT := hid hwg
      obtain ⟨n0, hn0⟩ : ∃ n0, n0 = (opN s F R fd k).length := ⟨_, rfl⟩
      rw [← hn0] at HST HSL ⊢
      clear hn0 hIR hm1 hwk hwg x0 x1 x2 o1 o2 hrcell hrw hown hg HOW
      go_wp2_with fail
      go_at_call 57
      refine (HCO.out _ (grown_trans HG.out (grown_alloc (grown_refl _ _) _))).mono ?_
      rintro e w1 ⟨ov, rfl, hov, hg1⟩
      have HW1 : Hid (wr.grownBy w1 none) := hid (grown_trans (grown_alloc (grown_refl _ _) _) hg1)
      obtain ⟨oa, om, oc, rfl⟩ := own_slice hov
      have eom := own_len hov
      subst eom
      have HOV := hid hov
      have hobs : ∀ g, (Value.slice oa IR.length oc).ownBlock = some g → wr.heap.size < g ∧ g < w1.heap.size := fun g hgg => by
        have := hov.lt g hgg
        simp at this
        omega
      have HOBS := hid hobs
      have hszw := HW1.out.size
      clear hov hg1 hobs HCO
      go_wp2_with fail
      go_loopw [7, 26] (fun t i wr2 => ∃ j : Nat, j ≤ IR.length ∧ i = .int .i64 j ∧ wr2.ownsRow w.heap.size 138 24 t (opJ s F R fd k IR j).length (insW (wgt s R) (opJ s F R fd k IR j)) ∧ w.grownBy wr2 none ∧ wr2.ownsRow 0 138 24 (.slice oa IR.length oc) IR.length (insC wk IR) ∧ w1.heap.size ≤ wr2.heap.size ∧ (∀ g, (Value.slice oa IR.length oc).ownBlock = some g → t.ownBlock ≠ some g)) (fun _ i _ => IR.length - (intOf i).toNat)
      case atStart => exact ⟨0, by omega, rfl, HST.out _ HW1.out, grown_trans HG.out HW1.out, own_mono HOV.out (by omega), Nat.le_refl _, fun g hg1 hg2 => by
        have q1 := (HOBS.out g hg1).1
        have q2 := HSL.out g hg2
        omega⟩
      case round =>
        rename World => wr2
        obtain ⟨j, hj, rfl, hown, hg2, hor, hsw, hnb⟩ := hrel
        have HG2 := hid hg2
        have HOW2 := hid hown
        have HNB := hid hnb
        have HOR := hid hor
        obtain ⟨ta, tm, tc, rfl⟩ := own_slice hown
        have em2 := own_len hown
        subst em2
        by_cases hltj : j < IR.length
        · obtain ⟨go, hoa, _, _, hgol, hocell⟩ := own_cell hor (by omega)
          subst hoa
          obtain ⟨L, hL⟩ : ∃ L, L = inCells wk IR[j] := ⟨_, rfl⟩
          have HRG : Hid (wr2.rangeAt go (j * 24) L) := hid (by rw [hL]; exact row_range (inCells_len wk) hocell hltj)
          have hLl : L.length = 24 := by rw [hL]; rfl
          have HIL : Hid ((Try.prog.info? 138).map (·.size) = some L.length) := hid (by rw [hLl]; exact info_inst)
          have HIZ : Hid ((Try.prog.info? 138).map (fun i => (i.zero, i.size)) = some (some (.agg #[.int .i64 0, .int .i64 0, .int .i64 0, .int .i64 0, .int .i64 0, .int .i64 0, .int .i64 0, .int .i64 0, .int .i64 0, .int .i64 0, .int .i64 0, .int .i64 0, .int .i64 0, .int .i64 0, .int .i64 0, .int .i64 0, .bool false, .bool false, .bool false, .bool false, .int .i64 0, .int .i64 0, .int .i64 0, .int .i64 0]), L.length)) := hid (by rw [hLl]; kernel_rfl)
          have HON : Hid (∀ u ∈ L, u.oneCell' = true) := hid (by rw [hL]; exact inCells_one _ _)
          have HONA : Hid (L.toArray.all (·.oneCell') = true) := hid (all_oneCell_toArray HON.out)
          have HRL : Hid ((wr2.alloc (.cells L.toArray 138)).rangeAt wr2.heap.size 0 L) := hid (range_of_blk (heap_alloc_new wr2 _) rfl)
          have HCA := hid (fun W => HHK.out IR[j] W (List.getElem_mem hltj))
          rw [← hL] at HCA
          have HSJ := hid (HJS.out j hltj)
          have hlen := HJL.out j
          have hsz2 := hg2.size
          have HLT := hid (fun g hg => (HOW2.out.lt g hg).1)
          have HOWG : Hid (∀ W, wr2.grownBy W none → W.ownsRow w.heap.size 138 24 (.slice ta (opJ s F R fd k IR j).length tc) (opJ s F R fd k IR j).length (insW (wgt s R) (opJ s F R fd k IR j))) := hid (fun W hW => own_kept HOW2.out hW (fun g hg => by cases hg))
          have HORG : Hid (∀ W, wr2.grownBy W none → W.ownsRow 0 138 24 (.slice (some ⟨go, 0, none⟩) IR.length oc) IR.length (insC wk IR)) := hid (fun W hW => own_kept HOR.out hW (fun g hg => by cases hg))
          obtain ⟨ok, hok⟩ : ∃ ok, ok = fd IR[j] := ⟨_, rfl⟩
          rw [← hok] at HCA HSJ
          have HFIN : Hid (ok = false → ∀ (w3 : World) (v' : Value), w3.ownsRow w.heap.size 138 24 v' ((opJ s F R fd k IR j).length + 1) (insW (wgt s R) (opJ s F R fd k IR j) ++ L) → w3.ownsRow w.heap.size 138 24 v' (opJ s F R fd k IR (j + 1)).length (insW (wgt s R) (opJ s F R fd k IR (j + 1)))) := hid (fun e w3 v' h => by
            rw [HSJ.out, e, if_neg (by simp), insW_app, insW_one, List.length_append, HIRR.out _ (List.getElem_mem hltj), HWGT.out, ← hL]
            exact h)
          have HSKIP : Hid (ok = true → opJ s F R fd k IR (j + 1) = opJ s F R fd k IR j) := hid (fun e => by rw [HSJ.out, e]; simp)
          obtain ⟨nl, hnl⟩ : ∃ nl, nl = (opJ s F R fd k IR j).length := ⟨_, rfl⟩
          obtain ⟨xs, hxs⟩ : ∃ xs, xs = insW (wgt s R) (opJ s F R fd k IR j) := ⟨_, rfl⟩
          rw [← hnl] at HFIN HOWG HOW2 HLT HNB hlen ⊢
          rw [← hxs] at HFIN HOWG HOW2
          have HNL := hid hnl
          have HXS := hid hxs
          have hneo : go ≠ wr2.heap.size := by omega
          clear hnl hxs HSJ hL hok hown hg2 hor hnb hocell HHK HJS HJL
          go_wp2_with (first
            | (refine wpList_load_mid rfl 138 (.tmp 28) rfl go (j * 24) rfl L _ HRG.out Try.underlying138 rfl HIL.out ?_)
            | (refine wpList_store_new rfl 138 (.tmp 12) (.tmp 29) rfl _ L rfl rfl hLl.symm HIL.out HONA.out ?_)
            | (refine wpList_load_mid rfl 138 (.tmp 12) rfl wr2.heap.size 0 rfl L _ HRL.out Try.underlying138 rfl HIL.out ?_))
          go_at_call 58
          refine (HCA.out _ (grown_trans HG2.out (grown_alloc (grown_refl _ _) _))).mono ?_
          rintro e w2 ⟨rfl, hg3⟩
          have HG3 := hid (grown_trans (grown_alloc (grown_refl wr2 none) (.cells L.toArray 138)) hg3)
          have HRL2 : Hid (w2.rangeAt wr2.heap.size 0 L) := hid (range_of_blk ((hg3.block _ (lt_of_block (heap_alloc_new wr2 _)) (by simp)).trans (heap_alloc_new wr2 _)) rfl)
          have how1 := HOWG.out _ (grown_alloc HG3.out (.cells L.toArray 138))
          have hszr : wr2.heap.size ≤ w2.heap.size := HG3.out.size
          clear hg3 HRG HRL HCA
          cases ok with
          | false =>
            have HFI := hid (HFIN.out rfl)
            clear HFIN HSKIP
            go_wp2_with (first
              | (refine wpList_load_mid rfl 138 (.tmp 12) rfl wr2.heap.size 0 rfl L _ HRL2.out Try.underlying138 rfl HIL.out ?_)
              | (refine wpList_build_one rfl 102 138 (.tmp 35) rfl _ L rfl Try.underlying102 HIZ.out (by omega) (by omega) ?_)
              | (at_builtin; refine wpList_append_own_at _ rfl (.tmp 34) (.tmp 36) 102 rfl (w.heap.size) 138 i0 (.agg #[.int .i64 0, .int .i64 0, .int .i64 0, .int .i64 0, .int .i64 0, .int .i64 0, .int .i64 0, .int .i64 0, .int .i64 0, .int .i64 0, .int .i64 0, .int .i64 0, .int .i64 0, .int .i64 0, .int .i64 0, .int .i64 0, .bool false, .bool false, .bool false, .bool false, .int .i64 0, .int .i64 0, .int .i64 0, .int .i64 0]) 24 168 Try.underlying102 hi0 hz0 hz1 hz2 rfl (by decide) _ _ _ rfl how1 _ 1 1 L rfl (by omega) (fun j u hj => news_at1 hj) HON.out (by unfold maxLen; omega) (by omega) (by simp; omega) ?_))
            intro v' w3 hown3 hg3 _ hpl
            have HO3 := hid (HFI.out _ _ hown3)
            have HGR3 : Hid (w.grownBy w3 none) := hid (grown_own2 (grown_trans HG2.out (grown_alloc HG3.out _)) hg3 HLT.out)
            have HOR3 : Hid (w3.ownsRow 0 138 24 (.slice (some ⟨go, 0, none⟩) IR.length oc) IR.length (insC wk IR)) := hid (own_kept_ne (HORG.out _ (grown_alloc HG3.out _)) hg3 (fun g hg e => HNB.out g hg e))
            have HS3 : Hid (w1.heap.size ≤ w3.heap.size) := hid (by have := hg3.size; simp at this; omega)
            have HN3 : Hid (∀ g, (Value.slice (some ⟨go, 0, none⟩) IR.length oc).ownBlock = some g → v'.ownBlock ≠ some g) := hid (fun g hg => by
              rcases hpl with h | h
              · rw [h]; exact HNB.out g hg
              · rw [h]
                have := (HOBS.out g hg).2
                simp
                omega)
            clear hown3 hg3 hpl
            go_wp2_with fail
            go_roundw
            case rel => exact ⟨j + 1, by omega, by go_num, HO3.out, HGR3.out, HOR3.out, HS3.out, HN3.out⟩
            case measure => simp [intOf]; omega
          | true =>
            have HSK := hid (HSKIP.out rfl)
            clear HFIN HSKIP how1
            go_wp2_with fail
            go_roundw
            case rel => exact ⟨j + 1, by omega, by go_num, by rw [HSK.out, ← HNL.out, ← HXS.out]; exact HOWG.out _ HG3.out, grown_trans HG2.out HG3.out, HORG.out _ HG3.out, by omega, HNB.out⟩
            case measure => simp [intOf]; omega
        · have ej : j = IR.length := by omega
          subst ej
          have HO2 : Hid (wr2.ownsRow w.heap.size 138 24 (.slice ta (opJ s F R fd k IR IR.length).length tc) (opN s F R fd (k + 1)).length (insW (wgt s R) (opN s F R fd (k + 1)))) := hid (by
            rw [← HJA.out]
            exact HOW2.out)
          clear hown hg2 hor hnb HHK HJS HJL HOW2
          go_wp2_with fail
          go_roundw
          case rel => exact ⟨k + 1, by omega, by go_num, HO2.out, HG2.out⟩
          case measure => simp [intOf]; omega
    · have hkl : k = R.length := by omega
      subst hkl
      clear hg hown
      go_wp2_with fail
      go_ret
      exact ⟨_, rfl, HOW.out, HG.out⟩

end Go.Proofs.Ythlhbjnkohinmaa
