import Derived.Test.YthlhbjnkohinmaaGreatPart13
import Derived.Test.YthlhbjnkohinmaaGreatPart10
/- The document's instantiations: which comes ahead. -/
namespace Go.Proofs.YthlhbjnkohinmaaGreat
open Go.RowKit

def wgt (s : ByteArray) (R : List RuleP) (r : Nat) : Int := bt s (R.getD r (0, [], [])).1 - 48

/-- An engine's rules, in memory. -/
structure RulAt (y : Nat) (s : ByteArray) (R : List RuleP) (ra : Option Addr) (rc : Nat) (xs : List Value) (w : World) : Prop where
  cell : w.cell? ⟨y, 0, none⟩ = some (.slice ra R.length rc)
  row : w.ownsRow 0 155 3 (.slice ra R.length rc) R.length xs
  parts : PartsR w 0 s R xs
theorem RulAt.kept {y : Nat} {s : ByteArray} {R : List RuleP} {ra : Option Addr} {rc : Nat} {xs : List Value} {w w' : World} (h : RulAt y s R ra rc xs w) (hg : w.grownBy w' none) : RulAt y s R ra rc xs w' :=
  ⟨grown_cell hg h.cell, own_kept h.row hg (fun g hg => by cases hg), PartsR_all h.parts hg⟩
theorem RulAt.weight {y : Nat} {s : ByteArray} {R : List RuleP} {ra : Option Addr} {rc : Nat} {xs : List Value} {w : World} (h : RulAt y s R ra rc xs w) {k : Nat} (hk : k < R.length) : ∃ g, ra = some ⟨g, 0, none⟩ ∧ g < w.heap.size ∧ w.cell? ⟨g, k * 3, none⟩ = some (.int .i64 (wgt s R k)) := by
  obtain ⟨a1, m1, c1, a2, m2, c2, x0, _⟩ := PartsR_at R xs h.parts k hk
  obtain ⟨g, e, _, _, hl, hcell⟩ := own_cell h.row (by omega)
  refine ⟨g, e, hl, ?_⟩
  rw [hcell _ _ x0]
  simp [wgt, List.getD, List.getElem?_eq_getElem hk]

/-- Is a text less than another? -/
def slt (a b : ByteArray) : Bool := Op.bytesLess a.toList b.toList
def aheadV (ui uj ti tj : Int) (ri rj : Nat) (lt : Bool) : Bool := if ui ≠ uj then decide (ui > uj) else if ti ≠ tj then decide (ti > tj) else if ri ≠ rj then decide (ri < rj) else lt

set_option maxRecDepth 20000 in
set_option maxHeartbeats 4000000 in
/-- Which of two comes ahead. -/
theorem ahead_any (y : Nat) (com : List (List Wr)) (S : Ses) (p : Value) (a : Option Addr) (cp : Nat) (cs : List Value) (fc fp : List Nat) (s : ByteArray) (R : List RuleP) (ra : Option Addr) (rc : Nat) (xs : List Value) (i j : In) (w : World)
    (hE : EngOk y com S p a cp cs fc fp w) (hA : RulAt y s R ra rc xs w) (hk : SeeOk com S) (hfi : i.facts.length ≤ 100) (hfj : j.facts.length ≤ 100) (hi : i.rule < R.length) (hj : j.rule < R.length) :
    Calls Tryz.prog 93 #[.pointer (some ⟨y, 0, none⟩), p, instV i, instV j] w fun e w' => e = .returned (.bool (aheadV (wgt s R i.rule) (wgt s R j.rule) (latD com S i.facts) (latD com S j.facts) i.rule j.rule (slt (factsT i.facts) (factsT j.facts)))) ∧ w.grownBy w' none := by
  have HLI : Hid (∀ W, w.grownBy W none → Calls Tryz.prog 116 #[.pointer (some ⟨y, 0, none⟩), p, instV i] W fun e w' => e = .returned (.int .i64 (latD com S i.facts)) ∧ W.grownBy w' none) := hid (fun W hW => latest_any y com S p a cp cs fc fp i W (hE.kept hW) hk hfi)
  have HLJ : Hid (∀ W, w.grownBy W none → Calls Tryz.prog 116 #[.pointer (some ⟨y, 0, none⟩), p, instV j] W fun e w' => e = .returned (.int .i64 (latD com S j.facts)) ∧ W.grownBy w' none) := hid (fun W hW => latest_any y com S p a cp cs fc fp j W (hE.kept hW) hk hfj)
  obtain ⟨gr, rfl, hgr, q1⟩ := hA.weight hi
  obtain ⟨gr2, e2, _, q2⟩ := hA.weight hj
  simp only [Option.some.injEq, Addr.mk.injEq, and_true] at e2
  subst e2
  have c0 := hA.cell
  have hyl := World.block_lt_of_cell? w _ c0
  have hyl2 : y < w.heap.size := by simpa using hyl
  have y1 : y ≠ w.heap.size := by omega
  have y2 : y ≠ w.heap.size + 1 := by omega
  have g1 : gr ≠ w.heap.size := by omega
  have g2 : gr ≠ w.heap.size + 1 := by omega
  have y3 : y < w.heap.size + 1 := by omega
  have g3 : gr < w.heap.size + 1 := by omega
  unfold instV at HLI HLJ ⊢
  obtain ⟨ui, hui⟩ : ∃ ui, ui = wgt s R i.rule := ⟨_, rfl⟩
  obtain ⟨uj, huj⟩ : ∃ uj, uj = wgt s R j.rule := ⟨_, rfl⟩
  obtain ⟨ti, hti⟩ : ∃ ti, ti = latD com S i.facts := ⟨_, rfl⟩
  obtain ⟨tj, htj⟩ : ∃ tj, tj = latD com S j.facts := ⟨_, rfl⟩
  rw [← hui, ← huj, ← hti, ← htj]
  rw [← hui] at q1
  rw [← huj] at q2
  rw [← hti] at HLI
  rw [← htj] at HLJ
  obtain ⟨fi, hfi2⟩ : ∃ fi, fi = factsT i.facts := ⟨_, rfl⟩
  obtain ⟨fj, hfj2⟩ : ∃ fj, fj = factsT j.facts := ⟨_, rfl⟩
  rw [← hfi2] at HLI ⊢
  rw [← hfj2] at HLJ ⊢
  obtain ⟨ri, hri⟩ : ∃ ri, ri = i.rule := ⟨_, rfl⟩
  obtain ⟨rj, hrj⟩ : ∃ rj, rj = j.rule := ⟨_, rfl⟩
  rw [← hri] at HLI q1 hi ⊢
  rw [← hrj] at HLJ q2 hj ⊢
  generalize eI i.env 0 = e0 at HLI ⊢
  generalize eI i.env 1 = e1 at HLI ⊢
  generalize eI i.env 2 = e2 at HLI ⊢
  generalize eI i.env 3 = e3 at HLI ⊢
  generalize eI j.env 0 = d0 at HLJ ⊢
  generalize eI j.env 1 = d1 at HLJ ⊢
  generalize eI j.env 2 = d2 at HLJ ⊢
  generalize eI j.env 3 = d3 at HLJ ⊢
  obtain ⟨r, hr⟩ : ∃ r, r = aheadV ui uj ti tj ri rj (slt fi fj) := ⟨_, rfl⟩
  rw [← hr]
  have HR := hid hr
  clear hr
  clear hE hA hk hfi hfj hyl hui huj hti htj hfi2 hfj2 hri hrj
  have i1 : (0 : Int) ≤ (ri : Int) := by omega
  have i2 : (ri : Int) < R.length := by omega
  have j1 : (0 : Int) ≤ (rj : Int) := by omega
  have j2 : (rj : Int) < R.length := by omega
  go_enter Tryz.func93, Tryz.ntmps93
  go_wp2_with fail
  go_quiet ((fail))
  go_wp2_with fail
  go_quiet ((fail))
  generalize hW0 : World.drewN _ _ = W0
  have HW0 : Hid (w.grownBy W0 none ∧ W0.heap[w.heap.size]? = some (.cells #[.int .i64 ri, .int .i64 e0, .int .i64 e1, .int .i64 e2, .int .i64 e3, .string fi] 136 (0, 0)) ∧ W0.heap[w.heap.size + 1]? = some (.cells #[.int .i64 rj, .int .i64 d0, .int .i64 d1, .int .i64 d2, .int .i64 d3, .string fj] 136 (0, 0))) := hid (by
    rw [← hW0]
    exact ⟨grown_drewN (grown_drewN (grown_alloc (grown_alloc (grown_refl _ _) _) _) _) _, (Below.heap_alloc _ _ _ (by simp)).trans (heap_alloc_new w _), blk_at (by simp)⟩)
  clear hW0 c0 q1 q2
  have HCI : Hid (∀ W, W0.grownBy W none → W.cell? ⟨w.heap.size, 0, none⟩ = some (.int .i64 ri) ∧ W.cell? ⟨w.heap.size, 1, none⟩ = some (.int .i64 e0) ∧ W.cell? ⟨w.heap.size, 2, none⟩ = some (.int .i64 e1) ∧ W.cell? ⟨w.heap.size, 3, none⟩ = some (.int .i64 e2) ∧ W.cell? ⟨w.heap.size, 4, none⟩ = some (.int .i64 e3) ∧ W.cell? ⟨w.heap.size, 5, none⟩ = some (.string fi)) := hid (fun W hW => by
    have hb := (hW.block _ (lt_of_block HW0.out.2.1) (by simp)).trans HW0.out.2.1
    refine ⟨?_, ?_, ?_, ?_, ?_, ?_⟩ <;> (rw [cell_of_row _ _ _ _ _ _ hb]; rfl))
  have HCJ : Hid (∀ W, W0.grownBy W none → W.cell? ⟨w.heap.size + 1, 0, none⟩ = some (.int .i64 rj) ∧ W.cell? ⟨w.heap.size + 1, 1, none⟩ = some (.int .i64 d0) ∧ W.cell? ⟨w.heap.size + 1, 2, none⟩ = some (.int .i64 d1) ∧ W.cell? ⟨w.heap.size + 1, 3, none⟩ = some (.int .i64 d2) ∧ W.cell? ⟨w.heap.size + 1, 4, none⟩ = some (.int .i64 d3) ∧ W.cell? ⟨w.heap.size + 1, 5, none⟩ = some (.string fj)) := hid (fun W hW => by
    have hb := (hW.block _ (lt_of_block HW0.out.2.2) (by simp)).trans HW0.out.2.2
    refine ⟨?_, ?_, ?_, ?_, ?_, ?_⟩ <;> (rw [cell_of_row _ _ _ _ _ _ hb]; rfl))
  have HG0 := hid HW0.out.1
  clear HW0
  generalize w.heap.size = b at *
  by_cases hw : ui = uj
  · have qw : (ui != uj) = false := by simpa using hw
    have HRW : Hid (r = if ti ≠ tj then decide (ti > tj) else if ri ≠ rj then decide (ri < rj) else slt fi fj) := hid (by rw [HR.out]; unfold aheadV; rw [if_neg (by simpa using hw)])
    obtain ⟨k0, k1, k2, k3, k4, k5⟩ := HCI.out W0 (grown_refl _ _)
    clear hw
    go_wp2_with fail
    go_at_call 116
    refine (HLI.out _ HG0.out).mono ?_
    rintro er w1 ⟨rfl, hg1⟩
    obtain ⟨m0, m1, m2, m3, m4, m5⟩ := HCJ.out w1 hg1
    have HG1 := hid hg1
    clear hg1 k0 k1 k2 k3 k4 k5
    go_wp2_with fail
    go_at_call 116
    refine (HLJ.out _ (grown_trans HG0.out HG1.out)).mono ?_
    rintro er w2 ⟨rfl, hg2⟩
    have HG2 := hid (grown_trans HG1.out hg2)
    obtain ⟨k0, _, _, _, _, k5⟩ := HCI.out w2 HG2.out
    obtain ⟨p0, _, _, _, _, p5⟩ := HCJ.out w2 HG2.out
    clear hg2 m0 m1 m2 m3 m4 m5
    by_cases ht : ti = tj
    · have qt : (ti != tj) = false := by simpa using ht
      by_cases hr : (ri : Int) = rj
      · have qr : ((ri : Int) != (rj : Int)) = false := by simpa using hr
        have HRR : Hid (r = slt fi fj) := hid (by rw [HRW.out, if_neg (by simpa using ht), if_neg (by omega)])
        clear ht hr
        go_wp2_with fail
        go_ret
        exact ⟨by rw [HRR.out]; rfl, grown_trans HG0.out HG2.out⟩
      · have qr : ((ri : Int) != (rj : Int)) = true := by simpa using hr
        have HRR : Hid (r = decide (ri < rj)) := hid (by rw [HRW.out, if_neg (by simpa using ht), if_pos (by omega)])
        clear ht hr
        go_wp2_with fail
        go_ret
        exact ⟨by rw [HRR.out]; rfl, grown_trans HG0.out HG2.out⟩
    · have qt : (ti != tj) = true := by simpa using ht
      have HRR : Hid (r = decide (ti > tj)) := hid (by rw [HRW.out, if_pos (by simpa using ht)])
      clear ht
      go_wp2_with fail
      go_ret
      exact ⟨by rw [HRR.out]; rfl, grown_trans HG0.out HG2.out⟩
  · have qw : (ui != uj) = true := by simpa using hw
    have HRR : Hid (r = decide (ui > uj)) := hid (by rw [HR.out]; unfold aheadV; rw [if_pos (by simpa using hw)])
    clear hw
    go_wp2_with fail
    go_ret
    exact ⟨by rw [HRR.out]; rfl, HG0.out⟩

end Go.Proofs.YthlhbjnkohinmaaGreat

/- The document's instantiations: numbers as they are written. -/
namespace Go.Proofs.YthlhbjnkohinmaaGreat
open Go.RowKit

set_option maxRecDepth 20000 in
set_option maxHeartbeats 2000000 in
theorem digits_any (n : Nat) (w : World) (hn : n ≤ 9223372036854775807) :
    Calls Tryz.prog 99 #[.int .i64 n] w fun e w' => (∃ t : ByteArray, e = .returned (.string t) ∧ t.size ≤ 20) ∧ w.grownBy w' none := by
  have hcv : ∀ (W : World) (x : Int), 0 ≤ x → x ≤ 255 → _ := fun W x (_ : 0 ≤ x) (_ : x ≤ 255) => run_convert_bytes_arg (P := Tryz.prog) (W.alloc (.cells #[.int .u8 x] 5)) 160 5 Tryz.underlying160 Tryz.underlying5 W.heap.size 0 1 1 [x] rfl (by
    intro i hi
    rw [World.cell?_alloc_at _ _ _ _ rfl]
    match i, hi with
    | 0, _ => rfl) 9 Tryz.underlying9
  have HCV := hid hcv
  clear hcv
  have h0 := HCV.out w (48 + (n : Int) % 10) (by omega) (by omega)
  have b0 : (48 : Int) + (n : Int) % 10 ≤ 255 := by omega
  have hs0 : (strOfNums [48 + (n : Int) % 10]).size = 1 := rfl
  have HI : Hid (n < 10 ^ 19) := hid (by have : (10 : Nat) ^ 19 = 10000000000000000000 := by decide
                                         omega)
  go_enter Tryz.func99, Tryz.ntmps99
  go_wp2_with fail
  go_loopw [3, 0] (fun v t wr => ∃ (k m : Nat) (u : ByteArray), t = .int .i64 k ∧ k ≤ n ∧ v = .string u ∧ u.size + m = 20 ∧ k < 10 ^ m ∧ w.grownBy wr none) (fun _ t _ => (intOf t).toNat)
  case atStart => exact ⟨n, 19, strOfNums [48 + (n : Int) % 10], rfl, Nat.le_refl _, rfl, rfl, HI.out, grown_alloc (grown_refl _ _) _⟩
  case round =>
    obtain ⟨k, m, u, rfl, hkn, rfl, hum, hkm, hg⟩ := hrel
    have HG := hid hg
    by_cases hk10 : 10 ≤ k
    · have hm2 : 2 ≤ m := by
        apply Classical.byContradiction
        intro h
        have : m = 0 ∨ m = 1 := by omega
        rcases this with e | e <;> subst e <;> simp at hkm <;> omega
      have h1 := HCV.out wr (48 + (k : Int) / 10 % 10) (by omega) (by omega)
      have b1 : (48 : Int) + (k : Int) / 10 % 10 ≤ 255 := by omega
      have b2 : (0 : Int) ≤ (k : Int) / 10 := by omega
      have b3 : (k : Int) / 10 ≤ 9223372036854775807 := by omega
      have hs1 : (strOfNums [48 + (k : Int) / 10 % 10]).size = 1 := rfl
      have hus : u.size ≤ 18 := by omega
      have HK : Hid (k / 10 < 10 ^ (m - 1)) := hid (by
        have e : 10 ^ m = 10 ^ (m - 1) * 10 := by rw [← Nat.pow_succ]; congr 1; omega
        rw [e] at hkm
        exact Nat.div_lt_of_lt_mul (by omega))
      have hkI : (10 : Int) ≤ (k : Int) := by omega
      have HS2 : Hid ((strOfNums [48 + (k : Int) / 10 % 10] ++ u).size + (m - 1) = 20) := hid (by rw [ByteArray.size_append, hs1]; omega)
      have hdk : ((k / 10 : Nat) : Int) = (k : Int) / 10 := by omega
      have HDK := hid hdk
      obtain ⟨nt, hnt⟩ : ∃ nt, nt = strOfNums [48 + (k : Int) / 10 % 10] := ⟨_, rfl⟩
      rw [← hnt] at h1 hs1 HS2
      have hkk : k / 10 < k := by omega
      clear hkm hg hdk hnt
      go_wp2_with fail
      go_roundw
      case rel => exact ⟨k / 10, m - 1, nt ++ u, by rw [HDK.out], by omega, rfl, HS2.out, HK.out, grown_alloc HG.out _⟩
      case measure => simp [intOf]; omega
    · have hkI : ¬ (10 : Int) ≤ (k : Int) := by omega
      clear hg hkm
      go_wp2_with fail
      go_ret
      exact ⟨⟨u, rfl, by omega⟩, HG.out⟩

end Go.Proofs.YthlhbjnkohinmaaGreat

/- The document's instantiations: what they are known by. -/
namespace Go.Proofs.YthlhbjnkohinmaaGreat
open Go.RowKit

theorem lastR_bd (l : List Wr) (c : ByteArray) : -1 ≤ lastR l c ∧ lastR l c < l.length := by
  unfold lastR
  cases h : lastI c l with
  | none => simp only []; omega
  | some k => have := lastI_lt h; simp only []; omega

set_option maxRecDepth 20000 in
set_option maxHeartbeats 4000000 in
theorem key_any (y : Nat) (com : List (List Wr)) (S : Ses) (p : Value) (a : Option Addr) (cp : Nat) (cs : List Value) (fc fp : List Nat) (i : In) (w : World)
    (hE : EngOk y com S p a cp cs fc fp w) (hk : SeeOk com S) (hf : i.facts.length ≤ 100) (hr9 : i.rule ≤ 9) :
    Calls Tryz.prog 68 #[.pointer (some ⟨y, 0, none⟩), p, instV i] w fun e w' => (∃ t : ByteArray, e = .returned (.string t)) ∧ w.grownBy w' none := by
  have hcl := hk.comLen
  have hwl := hk.wrLen
  obtain ⟨g1, a1, m1, c1, a2, m2, c2, rfl, hb1, ho1, ho2, _⟩ := hE.ses.open
  have HWR := hid (fun W => written_any i W hr9 hf)
  have HLA : Hid (∀ (c : ByteArray) (W : World), w.grownBy W none → Calls Tryz.prog 87 #[.slice a1 m1 c1, .string c] W fun e w' => e = .returned (.int .i64 (lastR S.wr c)) ∧ w' = W) := hid (fun c W hW => last_any S.wr c a1 m1 c1 0 W (by omega) (own_kept ho1 hW (fun g hg => by cases hg)))
  obtain ⟨st, hst⟩ : ∃ st : Nat, S.snap = st := ⟨S.snap.toNat, by have := hk.snap; omega⟩
  have hstl : st ≤ com.length := by have := hk.snapLe; omega
  have HAT : Hid (∀ (c : ByteArray) (W : World), w.grownBy W none → Calls Tryz.prog 59 #[.pointer (some ⟨y, 0, none⟩), .string c, .int .i64 st] W fun e w' => e = .returned (.tuple #[.int .i64 (atF com c st).1, .int .i64 (atF com c st).2]) ∧ w' = W) := hid (fun c W hW => by
    have h := hE.kept hW
    exact at_any y com cs fc c st a _ cp W h.cell h.row h.com hstl (by omega) hk.each)
  have HBD := hid (fun c => atF_bd com c st)
  have HLB := hid (lastR_bd S.wr)
  have HB1 : Hid (∀ W, w.grownBy W none → W.cell? ⟨g1, 1, none⟩ = some (.int .i64 st) ∧ W.cell? ⟨g1, 2, none⟩ = some (.slice a1 m1 c1)) := hid (fun W hW => by
    have hb := (hW.block _ (lt_of_block hb1) (by simp)).trans hb1
    exact ⟨by rw [cell_of_row _ _ _ _ _ _ hb, ← hst]; rfl, by rw [cell_of_row _ _ _ _ _ _ hb]; rfl⟩)
  have hg1l := lt_of_block hb1
  have HSZ := hid (factsT_size i.facts)
  have hws : (writT i).size ≤ 301 := by
    unfold writT
    rw [ByteArray.size_append, factsT_size]
    have : (strOfNums [48 + (i.rule : Int)]).size = 1 := rfl
    omega
  obtain ⟨wt, hwt⟩ : ∃ wt, wt = writT i := ⟨_, rfl⟩
  rw [← hwt] at HWR hws
  unfold instV at HWR ⊢
  obtain ⟨G, hG⟩ : ∃ G, G = i.facts := ⟨_, rfl⟩
  rw [← hG] at hf HSZ HWR ⊢
  obtain ⟨ft, hft⟩ : ∃ ft, ft = factsT G := ⟨_, rfl⟩
  rw [← hft] at HSZ HWR ⊢
  have hsz := HSZ.out
  obtain ⟨ru, hru⟩ : ∃ ru : Int, ru = i.rule := ⟨_, rfl⟩
  rw [← hru] at HWR ⊢
  generalize eI i.env 0 = e0 at HWR ⊢
  generalize eI i.env 1 = e1 at HWR ⊢
  generalize eI i.env 2 = e2 at HWR ⊢
  generalize eI i.env 3 = e3 at HWR ⊢
  clear hE hk hG hft hru hwt hb1 ho1 ho2 hst hr9
  go_enter Tryz.func68, Tryz.ntmps68
  go_wp2_with fail
  go_at_call 64
  refine (HWR.out _).mono ?_
  rintro er WA ⟨rfl, hga⟩
  have HWA : Hid (w.grownBy WA none) := hid (grown_trans (grown_alloc (grown_refl _ _) _) hga)
  have HWB : Hid (WA.cell? ⟨w.heap.size, 5, none⟩ = some (.string ft)) := hid (grown_cell hga (cell_new rfl))
  clear hga
  generalize w.heap.size = b at HWB ⊢
  go_wp2_with fail
  go_loopw [7, 8] (fun v t wr => ∃ (j : Nat) (u : ByteArray), j ≤ G.length ∧ t = .int .i64 ((j : Int) * 3) ∧ v = .string u ∧ u.size ≤ 301 + 22 * j ∧ WA.grownBy wr none) (fun _ t _ => G.length * 3 - (intOf t).toNat)
  case atStart => exact ⟨0, wt, by omega, rfl, rfl, by omega, grown_refl _ _⟩
  case round =>
    obtain ⟨j, u, hj, rfl, rfl, hus, hg⟩ := hrel
    have HG := hid hg
    have d5 := grown_cell hg HWB.out
    obtain ⟨d1, d2⟩ := HB1.out wr (grown_trans HWA.out hg)
    by_cases hlt : j < G.length
    · have b1 : (j : Int) * 3 + 2 < ft.size := by omega
      have b2 : (0 : Int) ≤ (j : Int) * 3 := by omega
      obtain ⟨ct, hct⟩ : ∃ ct, ct = ft.extract (j * 3) (j * 3 + 2) := ⟨_, rfl⟩
      have hx : ft.extract (j * 3) (j * 3 + 2) = ct := hct.symm
      have HL1 := hid (fun n => HLA.out ct (wr.drewN n) (grown_drewN (grown_trans HWA.out hg) n))
      have HA2 := hid (fun n m => HAT.out ct ((wr.drewN n).drewN m) (grown_drewN (grown_drewN (grown_trans HWA.out hg) n) m))
      have hlb := HLB.out ct
      have hab := HBD.out ct
      obtain ⟨lr, hlr⟩ : ∃ lr, lr = lastR S.wr ct := ⟨_, rfl⟩
      obtain ⟨v0, hv0⟩ : ∃ v0, v0 = (atF com ct st).1 := ⟨_, rfl⟩
      obtain ⟨t0, ht0⟩ : ∃ t0, t0 = (atF com ct st).2 := ⟨_, rfl⟩
      rw [← hlr] at HL1 hlb
      rw [← hv0, ← ht0] at HA2
      rw [← ht0] at hab
      have ej : ((j : Int) * 3 + 3) = ((j + 1 : Nat) : Int) * 3 := by omega
      have HEJ := hid ej
      have c1' : (0 : Int) ≤ (j : Int) * 3 + 2 := by omega
      have c2' : (j : Int) * 3 ≤ (j : Int) * 3 + 2 := by omega
      have c3' : (j : Int) * 3 + 2 ≤ ft.size := by omega
      have c4' : IntKind.i64.wrap ((j : Int) * 3 + 2) = (j : Int) * 3 + 2 := Go.IntWalk.i64_in _ (by omega)
      have t1' : ((j : Int) * 3).toNat = j * 3 := by omega
      have t2' : ((j : Int) * 3 + 2).toNat = j * 3 + 2 := by omega
      clear hct hlr hv0 ht0 hg ej hsz
      go_wp2_with fail
      go_quiet ((go_at_call 87; exact Calls.quiet_of_same (HL1.out _)))
      by_cases hl0 : 0 ≤ lr
      · obtain ⟨ln, hln⟩ : ∃ ln : Nat, lr = ln := ⟨lr.toNat, by omega⟩
        subst hln
        have HD := hid (fun W => digits_any ln W (by omega))
        go_wp2_with fail
        go_at_call 99
        refine (HD.out _).mono ?_
        rintro er w1 ⟨⟨dt, rfl, hdt⟩, hg1⟩
        have HG1 := hid hg1
        clear hg1
        have hu2 : (u ++ (⟨#[32, 119]⟩ : ByteArray)).size = u.size + 2 := by rw [ByteArray.size_append]; rfl
        have HS2 : Hid ((u ++ (⟨#[32, 119]⟩ : ByteArray) ++ dt).size ≤ 301 + 22 * (j + 1)) := hid (by rw [ByteArray.size_append, hu2]; omega)
        go_wp2_with fail
        go_roundw
        case rel => exact ⟨j + 1, _, by omega, by rw [← HEJ.out], rfl, HS2.out, grown_trans (grown_drewN HG.out _) HG1.out⟩
        case measure => simp [intOf]; omega
      · generalize hW1 : World.drewN wr _ = W1
        have HGW : Hid (WA.grownBy W1 none) := hid (by rw [← hW1]; exact grown_drewN HG.out _)
        have f5 : W1.cell? ⟨b, 5, none⟩ = some (.string ft) := by rw [← hW1]; exact d5
        have f1 : W1.cell? ⟨g1, 1, none⟩ = some (.int .i64 st) := by rw [← hW1]; exact d1
        have HA1 : Hid (∀ n, Calls Tryz.prog 59 #[.pointer (some ⟨y, 0, none⟩), .string ct, .int .i64 st] (W1.drewN n) fun e w' => e = .returned (.tuple #[.int .i64 v0, .int .i64 t0]) ∧ w' = W1.drewN n) := hid (fun n => by rw [← hW1]; exact HA2.out _ n)
        clear hW1 d5 d1 d2 HA2
        go_wp2_with fail
        go_quiet ((go_at_call 59; exact Calls.quiet_of_same (HA1.out _)))
        obtain ⟨ln, hln⟩ : ∃ ln : Nat, t0 = ln := ⟨t0.toNat, by omega⟩
        subst hln
        have HD := hid (fun W => digits_any ln W (by omega))
        go_wp2_with fail
        go_at_call 99
        refine (HD.out _).mono ?_
        rintro er w1 ⟨⟨dt, rfl, hdt⟩, hg1⟩
        have HG1 := hid hg1
        clear hg1
        have hu2 : (u ++ (⟨#[32, 118]⟩ : ByteArray)).size = u.size + 2 := by rw [ByteArray.size_append]; rfl
        have HS2 : Hid ((u ++ (⟨#[32, 118]⟩ : ByteArray) ++ dt).size ≤ 301 + 22 * (j + 1)) := hid (by rw [ByteArray.size_append, hu2]; omega)
        go_wp2_with fail
        go_roundw
        case rel => exact ⟨j + 1, _, by omega, by rw [← HEJ.out], rfl, HS2.out, grown_trans (grown_drewN HGW.out _) HG1.out⟩
        case measure => simp [intOf]; omega
    · clear hg
      go_wp2_with fail
      go_ret
      exact ⟨⟨u, rfl⟩, grown_trans HWA.out HG.out⟩

end Go.Proofs.YthlhbjnkohinmaaGreat

/- The document's instantiations: was one fired? -/
namespace Go.Proofs.YthlhbjnkohinmaaGreat
open Go.RowKit

set_option maxRecDepth 20000 in
set_option maxHeartbeats 2000000 in
theorem fired_no (y : Nat) (com : List (List Wr)) (S : Ses) (p : Value) (a : Option Addr) (cp : Nat) (cs : List Value) (fc fp : List Nat) (i : In) (w : World)
    (hE : EngOk y com S p a cp cs fc fp w) (hk : SeeOk com S) (hf : i.facts.length ≤ 100) (hr9 : i.rule ≤ 9) (hS : S.fired = []) :
    Calls Tryz.prog 92 #[.pointer (some ⟨y, 0, none⟩), p, instV i] w fun e w' => e = .returned (.bool false) ∧ w.grownBy w' none := by
  have HKEY : Hid (∀ W, w.grownBy W none → Calls Tryz.prog 68 #[.pointer (some ⟨y, 0, none⟩), p, instV i] W fun e w' => (∃ t : ByteArray, e = .returned (.string t)) ∧ W.grownBy w' none) := hid (fun W hW => key_any y com S p a cp cs fc fp i W (hE.kept hW) hk hf hr9)
  obtain ⟨g1, a1, m1, c1, a2, m2, c2, rfl, hb1, ho1, ho2, _⟩ := hE.ses.open
  rw [hS] at ho2
  have em := own_len ho2
  simp only [List.length_nil] at em
  subst em
  have HB : Hid (∀ W, w.grownBy W none → W.cell? ⟨g1, 3, none⟩ = some (.slice a2 0 c2)) := hid (fun W hW => by
    have hb := (hW.block _ (lt_of_block hb1) (by simp)).trans hb1
    rw [cell_of_row _ _ _ _ _ _ hb]; rfl)
  unfold instV at HKEY ⊢
  obtain ⟨ft, hft⟩ : ∃ ft, ft = factsT i.facts := ⟨_, rfl⟩
  rw [← hft] at HKEY ⊢
  obtain ⟨ru, hru⟩ : ∃ ru : Int, ru = i.rule := ⟨_, rfl⟩
  rw [← hru] at HKEY ⊢
  generalize eI i.env 0 = e0 at HKEY ⊢
  generalize eI i.env 1 = e1 at HKEY ⊢
  generalize eI i.env 2 = e2 at HKEY ⊢
  generalize eI i.env 3 = e3 at HKEY ⊢
  clear hE hk hft hru ho1 ho2 hb1 hS
  go_enter Tryz.func92, Tryz.ntmps92
  go_wp2_with fail
  go_at_call 68
  refine (HKEY.out _ (grown_alloc (grown_refl _ _) _)).mono ?_
  rintro er w1 ⟨⟨t, rfl⟩, hg1⟩
  have hgw := grown_trans (grown_alloc (grown_refl w none) _) hg1
  have d3 := HB.out w1 hgw
  have HG := hid hgw
  clear hg1 hgw
  go_wp2_with fail
  go_loop [8] (fun i => i = .int .i64 0) (fun _ => 0)
  case atStart => rfl
  case round =>
    subst hrel
    go_wp2_with fail
    go_ret
    exact ⟨rfl, HG.out⟩

end Go.Proofs.YthlhbjnkohinmaaGreat

/- The document's instantiations: two of a row are swapped. -/
namespace Go.Proofs.YthlhbjnkohinmaaGreat
open Go.RowKit

theorem own_set {w : World} {base : Nat} {e : TypeId} {size g n cap j : Nat} {xs : List Value} (h : w.ownsRow base e size (.slice (some ⟨g, 0, none⟩) n cap) n xs) (u : Value) : (w.setCell ⟨g, j, none⟩ u).ownsRow base e size (.slice (some ⟨g, 0, none⟩) n cap) n (xs.set j u) := by
  obtain ⟨h1, h2⟩ := h
  refine ⟨by simpa using h1, ?_⟩
  rcases h2 with ⟨e, _⟩ | ⟨g', cap', cur, e, hb, hh, h3, h4, h5, h6⟩
  · simp at e
  · simp only [Value.slice.injEq, Option.some.injEq, Addr.mk.injEq, and_true, true_and] at e
    obtain ⟨rfl, rfl⟩ := e
    exact .inr ⟨g, cap, cur.setIfInBounds j u, rfl, hb, blk_setCell hh j u, h3, h4, by simpa using h5, by rw [← h6]; simp [List.take_set]⟩
theorem own_free {w : World} {base : Nat} {e : TypeId} {size g n cap : Nat} {xs : List Value} (h : w.ownsRow base e size (.slice (some ⟨g, 0, none⟩) n cap) n xs) (j : Nat) : w.frozen? ⟨g, j, none⟩ = false := by
  obtain ⟨cs, hcs⟩ := own_row_ty h g rfl
  exact frozen_blk hcs j

theorem set_at {L R : List Value} {m i : Nat} (hL : L.length = m) (v : Value) : (L ++ R).set (m + i) v = L ++ R.set i v := by
  subst hL
  simp
/-- The cells behind a swap of two neighbours. -/
def swapped (xs : List Value) (m : Nat) (a b : In) : List Value :=
  (((((((((((xs.set ((m + 1) * 6) (.int .i64 a.rule)).set ((m + 1) * 6 + 1) (.int .i64 (eI a.env 0))).set ((m + 1) * 6 + 2) (.int .i64 (eI a.env 1))).set ((m + 1) * 6 + 3) (.int .i64 (eI a.env 2))).set ((m + 1) * 6 + 4) (.int .i64 (eI a.env 3))).set ((m + 1) * 6 + 5) (.string (factsT a.facts))).set (m * 6) (.int .i64 b.rule)).set (m * 6 + 1) (.int .i64 (eI b.env 0))).set (m * 6 + 2) (.int .i64 (eI b.env 1))).set (m * 6 + 3) (.int .i64 (eI b.env 2))).set (m * 6 + 4) (.int .i64 (eI b.env 3))).set (m * 6 + 5) (.string (factsT b.facts))
theorem swapped_eq (A B : List In) (a b : In) (m : Nat) (hA : A.length = m) : swapped (dCells (A ++ a :: b :: B)) m a b = dCells (A ++ b :: a :: B) := by
  have hl : (dCells A).length = m * 6 := by rw [dCells_len, hA]
  have e1 : dCells (A ++ a :: b :: B) = dCells A ++ dCells (a :: b :: B) := dCells_app _ _
  have e2 : dCells (A ++ b :: a :: B) = dCells A ++ dCells (b :: a :: B) := dCells_app _ _
  have s0 := fun (R : List Value) (v : Value) => set_at (R := R) (i := 0) hl v
  simp only [Nat.add_zero] at s0
  have q0 : (m + 1) * 6 = m * 6 + 6 := by omega
  have q1 : (m + 1) * 6 + 1 = m * 6 + 7 := by omega
  have q2 : (m + 1) * 6 + 2 = m * 6 + 8 := by omega
  have q3 : (m + 1) * 6 + 3 = m * 6 + 9 := by omega
  have q4 : (m + 1) * 6 + 4 = m * 6 + 10 := by omega
  have q5 : (m + 1) * 6 + 5 = m * 6 + 11 := by omega
  unfold swapped
  rw [e1, e2, q5, q4, q3, q2, q1, q0]
  simp only [set_at hl, s0]
  rfl

end Go.Proofs.YthlhbjnkohinmaaGreat

/- The document's instantiations: all that are open, in their order. -/
namespace Go.Proofs.YthlhbjnkohinmaaGreat
open Go.RowKit

theorem mid_get {O : List In} {x : In} {k : Nat} (hk : k ≤ O.length) : (O.take k ++ x :: O.drop k).length = O.length + 1 ∧ ∃ h : k < (O.take k ++ x :: O.drop k).length, (O.take k ++ x :: O.drop k)[k] = x := by
  have h1 : (O.take k).length = k := by simp; omega
  have h2 : (O.take k ++ x :: O.drop k).length = O.length + 1 := by
    rw [List.length_append, List.length_cons, h1, List.length_drop]; omega
  refine ⟨h2, by omega, ?_⟩
  rw [List.getElem_append_right (by omega)]
  simp [h1]
theorem mid_prev {O : List In} {x : In} {m : Nat} (hm : m < O.length) : ∃ h : m < (O.take (m + 1) ++ x :: O.drop (m + 1)).length, (O.take (m + 1) ++ x :: O.drop (m + 1))[m] = O[m] := by
  have h1 : (O.take (m + 1)).length = m + 1 := by simp; omega
  refine ⟨by simp; omega, ?_⟩
  rw [List.getElem_append_left (by omega)]
  simp
theorem mid_swap {O : List In} {x : In} {m : Nat} (hm : m < O.length) : O.take (m + 1) ++ x :: O.drop (m + 1) = O.take m ++ O[m] :: x :: O.drop (m + 1) ∧ O.take m ++ x :: O.drop m = O.take m ++ x :: O[m] :: O.drop (m + 1) := by
  constructor
  · rw [List.take_succ_eq_append_getElem hm, List.append_assoc]; rfl
  · rw [List.drop_eq_getElem_cons hm]

set_option maxRecDepth 20000 in
set_option maxHeartbeats 8000000 in
theorem ready_loop (y : Nat) (com : List (List Wr)) (S : Ses) (p : Value) (a : Option Addr) (cp : Nat) (cs : List Value) (fc fp : List Nat) (s : ByteArray) (R : List RuleP) (ra : Option Addr) (rc : Nat) (xs : List Value) (F : List PFact) (L : List In) (lt : In → In → Bool) (w : World)
    (hE : EngOk y com S p a cp cs fc fp w) (hA : RulAt y s R ra rc xs w) (hk : SeeOk com S) (hS : S.fired = [])
    (hFA : Hid (Calls Tryz.prog 51 #[.pointer (some ⟨y, 0, none⟩), p] w fun e w' => ∃ v, e = .returned v ∧ w'.ownsRow w.heap.size 9 1 v F.length (fxCells F) ∧ w.grownBy w' none))
    (hALL : Hid (∀ (fa : Option Addr) (fcp : Nat) (W : World), w.grownBy W none → W.ownsRow 0 9 1 (.slice fa F.length fcp) F.length (fxCells F) → Calls Tryz.prog 91 #[.slice ra R.length rc, .slice fa F.length fcp] W fun e w' => ∃ v, e = .returned v ∧ w'.ownsRow W.heap.size 136 6 v L.length (dCells L) ∧ W.grownBy w' none))
    (hw : Weak lt) (hLn : L.length ≤ 10000000000) (hL : ∀ i ∈ L, i.facts.length ≤ 100 ∧ i.rule < R.length ∧ i.rule ≤ 9)
    (hlt : ∀ k (h1 : k < L.length) i (h2 : i < L.length), i < k → aheadV (wgt s R L[k].rule) (wgt s R L[i].rule) (latD com S L[k].facts) (latD com S L[i].facts) L[k].rule L[i].rule (slt (factsT L[k].facts) (factsT L[i].facts)) = lt L[k] L[i]) :
    Calls Tryz.prog 63 #[.pointer (some ⟨y, 0, none⟩), p] w fun e w' => ∃ v, e = .returned v ∧ w'.ownsRow w.heap.size 136 6 v L.length (dCells (isort lt L)) ∧ w.grownBy w' none := by
  obtain ⟨i0, hi0, hz0, hz1, hz2⟩ := info_parts Tryz.info136
  have HE := hid hE
  have HA := hid hA
  have c0 := hA.cell
  have HFI : Hid (∀ i ∈ L, ∀ W, w.grownBy W none → Calls Tryz.prog 92 #[.pointer (some ⟨y, 0, none⟩), p, instV i] W fun e w' => e = .returned (.bool false) ∧ W.grownBy w' none) := hid (fun i hi W hW => fired_no y com S p a cp cs fc fp i W (hE.kept hW) hk (hL i hi).1 (hL i hi).2.2 hS)
  have HAH : Hid (∀ i ∈ L, ∀ j ∈ L, ∀ W, w.grownBy W none → Calls Tryz.prog 93 #[.pointer (some ⟨y, 0, none⟩), p, instV i, instV j] W fun e w' => e = .returned (.bool (aheadV (wgt s R i.rule) (wgt s R j.rule) (latD com S i.facts) (latD com S j.facts) i.rule j.rule (slt (factsT i.facts) (factsT j.facts)))) ∧ W.grownBy w' none) := hid (fun i hi j hj W hW => ahead_any y com S p a cp cs fc fp s R ra rc xs i j W (hE.kept hW) (hA.kept hW) hk (hL i hi).1 (hL j hj).1 (hL i hi).2.1 (hL j hj).2.1)
  have HLT := hid hlt
  have HW := hid hw
  clear hE hA hk hL hlt hw hS
  go_enter Tryz.func63, Tryz.ntmps63
  go_wp2_with fail
  go_at_call 51
  refine hFA.out.mono ?_
  rintro er w1 ⟨fv, rfl, hof, hg1⟩
  obtain ⟨fa, fm, fcp, rfl⟩ := own_slice hof
  have em := own_len hof
  subst em
  have HC := hid (hALL.out fa fcp w1 hg1 (own_mono hof (Nat.zero_le _)))
  have d0 := grown_cell hg1 c0
  have HG1 := hid hg1
  clear hof hg1 hFA hALL
  go_wp2_with fail
  go_at_call 91
  refine HC.out.mono ?_
  rintro er w2 ⟨lv, rfl, hol, hg2⟩
  obtain ⟨la, lm, lcp, rfl⟩ := own_slice hol
  have em := own_len hol
  subst em
  have HG2 := hid (grown_trans HG1.out hg2)
  have HOL := hid hol
  clear HC hol hg2 d0 c0
  go_wp2_with fail
  go_loopw [7, 8] (fun v t wr => ∃ i : Nat, i ≤ L.length ∧ t = .int .i64 i ∧ wr.ownsRow w2.heap.size 136 6 v i (dCells (isort lt (L.take i))) ∧ w2.grownBy wr none) (fun _ t _ => L.length - (intOf t).toNat)
  case atStart => exact ⟨0, by omega, rfl, World.ownsRow_nil _ _ _ _, grown_refl _ _⟩
  case round =>
    obtain ⟨i, hi, rfl, hown, hg⟩ := hrel
    generalize wr = W3 at *
    have HG := hid hg
    have HOW := hid hown
    by_cases hltI : i < L.length
    · have how := own_kept HOL.out hg (fun g hg => by cases hg)
      obtain ⟨gl, hla, _, _, hgl, hcell⟩ := own_cell how (by omega)
      subst hla
      obtain ⟨x0, x1, x2, x3, x4, x5⟩ := dCells_at L i hltI
      have d0 := hcell _ _ x0
      have d1 := hcell _ _ x1
      have d2 := hcell _ _ x2
      have d3 := hcell _ _ x3
      have d4 := hcell _ _ x4
      have d5 := hcell _ _ x5
      have hmem : L[i] ∈ L := List.getElem_mem hltI
      have HC := hid (HFI.out L[i] hmem W3 (grown_trans HG2.out hg))
      have HSN := hid (dCells_snoc (isort lt (L.take i)) L[i])
      have hol : (isort lt (L.take i)).length = i := by rw [isort_len]; simp; omega
      have HIS : Hid (isort lt (L.take (i + 1)) = insF lt L[i] (isort lt (L.take i))) := hid (by rw [List.take_succ_eq_append_getElem hltI, isort_snoc])
      have HSO := hid (isort_sorted HW.out (L.take i))
      have HMEM : Hid (∀ z ∈ isort lt (L.take i), z ∈ L ∧ aheadV (wgt s R L[i].rule) (wgt s R z.rule) (latD com S L[i].facts) (latD com S z.facts) L[i].rule z.rule (slt (factsT L[i].facts) (factsT z.facts)) = lt L[i] z) := hid (fun z hz => by
        have hz2 := isort_mem.mp hz
        obtain ⟨q, hq, rfl⟩ := List.mem_iff_getElem.mp hz2
        have hq2 : q < i := by simp at hq; omega
        have hq3 : q < L.length := by omega
        have e : (L.take i)[q] = L[q] := by simp
        rw [e]
        exact ⟨List.getElem_mem hq3, HLT.out i hltI q hq3 hq2⟩)
      unfold instV at HC
      obtain ⟨it, hit⟩ : ∃ it, it = L[i] := ⟨_, rfl⟩
      rw [← hit] at HC HSN HIS HMEM hmem d0 d1 d2 d3 d4 d5
      obtain ⟨O, hO⟩ : ∃ O, O = isort lt (L.take i) := ⟨_, rfl⟩
      rw [← hO] at HSN HIS HMEM HSO hol HOW
      obtain ⟨ru, hru⟩ : ∃ ru : Int, ru = it.rule := ⟨_, rfl⟩
      obtain ⟨e0, he0⟩ : ∃ e0, e0 = eI it.env 0 := ⟨_, rfl⟩
      obtain ⟨e1, he1⟩ : ∃ e1, e1 = eI it.env 1 := ⟨_, rfl⟩
      obtain ⟨e2, he2⟩ : ∃ e2, e2 = eI it.env 2 := ⟨_, rfl⟩
      obtain ⟨e3, he3⟩ : ∃ e3, e3 = eI it.env 3 := ⟨_, rfl⟩
      obtain ⟨ft, hft⟩ : ∃ ft, ft = factsT it.facts := ⟨_, rfl⟩
      have HIT : Hid (ru = it.rule ∧ e0 = eI it.env 0 ∧ e1 = eI it.env 1 ∧ e2 = eI it.env 2 ∧ e3 = eI it.env 3 ∧ ft = factsT it.facts) := hid ⟨hru, he0, he1, he2, he3, hft⟩
      rw [← hru, ← he0, ← he1, ← he2, ← he3, ← hft] at HC HSN
      rw [← hru] at d0
      rw [← he0] at d1
      rw [← he1] at d2
      rw [← he2] at d3
      rw [← he3] at d4
      rw [← hft] at d5
      obtain ⟨av, mv, cv, rfl⟩ := own_slice hown
      have em := own_len hown
      subst em
      clear how hcell x0 x1 x2 x3 x4 x5 hown hg hit hO hru he0 he1 he2 he3 hft
      go_wp2_with fail
      go_at_call 92
      refine HC.out.mono ?_
      rintro er w4 ⟨rfl, hg4⟩
      have c0 := grown_cell hg4 d0
      have c1 := grown_cell hg4 d1
      have c2 := grown_cell hg4 d2
      have c3 := grown_cell hg4 d3
      have c4 := grown_cell hg4 d4
      have c5 := grown_cell hg4 d5
      have how4 := own_kept HOW.out hg4 (fun g hg => by cases hg)
      have HG4 := hid (grown_trans HG.out hg4)
      have hs4 := HG4.out.size
      have HO4 := hid how4
      clear d0 d1 d2 d3 d4 d5 hg4 HC
      go_wp2_with (first | (at_builtin; refine wpList_append_own _ rfl (.tmp 36) (.tmp 41) 130 rfl (w2.heap.size) 136 i0 (.agg #[.int .i64 0, .int .i64 0, .int .i64 0, .int .i64 0, .int .i64 0, .string ByteArray.empty]) 6 56 Tryz.underlying130 hi0 hz0 hz1 hz2 rfl (by decide) _ _ _ rfl (how4.alloc _) _ 1 1 [.int .i64 ru, .int .i64 e0, .int .i64 e1, .int .i64 e2, .int .i64 e3, .string ft] rfl rfl ?c1 ?c2 ?c3 ?c4 ?c5 ?_))
      case c1 => intro j u hj; exact news_at1 hj
      case c2 => intro u hu; simp at hu; rcases hu with h | h | h | h | h | h <;> subst h <;> rfl
      case c3 => unfold maxLen; omega
      case c4 => omega
      case c5 => simp; omega
      · intro v' w5 hown5 hg5 _
        have HG5 : Hid (w2.grownBy w5 none) := hid (grown_own2 (grown_alloc HG4.out _) hg5 (fun g hg => (HO4.out.lt g hg).1))
        have HO5 : Hid (w5.ownsRow w2.heap.size 136 6 v' (mv + 1) (dCells (O.take O.length ++ it :: O.drop O.length))) := hid (by
          rw [List.take_length, List.drop_length, HSN.out]
          exact hown5)
        clear hown5 hg5 how4 c0 c1 c2 c3 c4 c5
        obtain ⟨va, vm, vc, rfl⟩ := own_slice HO5.out
        have em := own_len HO5.out
        subst em
        obtain ⟨gv, hva, _, hgvb, _, _⟩ := own_cell HO5.out (by omega)
        subst hva
        go_wp2_with fail
        have HPUT : Hid (∀ k, k ≤ O.length → (∀ b ∈ O.drop k, lt it b = true) → (k = 0 ∨ ∃ h : k - 1 < O.length, lt it O[k - 1] = false) → dCells (O.take k ++ it :: O.drop k) = dCells (isort lt (L.take (mv + 1)))) := hid (fun k hk h1 h2 => by rw [HIS.out, insF_at HW.out it O k hk HSO.out h1 h2])
        go_loopw [10] (fun t wr2 => ∃ k : Nat, k ≤ O.length ∧ t = .int .i64 k ∧ wr2.ownsRow w2.heap.size 136 6 (.slice (some ⟨gv, 0, none⟩) (mv + 1) vc) (mv + 1) (dCells (O.take k ++ it :: O.drop k)) ∧ w2.grownBy wr2 none ∧ ∀ b ∈ O.drop k, lt it b = true) (fun t _ => (intOf t).toNat)
        case atStart => exact ⟨O.length, Nat.le_refl _, by rw [hol], HO5.out, HG5.out, by simp⟩
        case round =>
          obtain ⟨k, hkO, rfl, hrow, hgr, hall⟩ := hrel
          have HALL := hid hall
          have HGR := hid hgr
          have HROW := hid hrow
          clear hall
          cases k with
          | zero =>
            have HX := hid (HPUT.out 0 (Nat.zero_le _) HALL.out (.inl rfl))
            have HFIN : Hid (wr.ownsRow w2.heap.size 136 6 (.slice (some ⟨gv, 0, none⟩) (mv + 1) vc) (mv + 1) (dCells (isort lt (L.take (mv + 1))))) := hid (by rw [← HX.out]; exact HROW.out)
            clear hrow hgr
            go_wp2_with fail
            go_roundw
            case rel => exact ⟨mv + 1, by omega, by go_num, HFIN.out, HGR.out⟩
            case measure => simp [intOf]; omega
          | succ m =>
            have hmO : m < O.length := by omega
            obtain ⟨_, hx1, hx2⟩ := mid_get (x := it) hkO
            obtain ⟨hy1, hy2⟩ := mid_prev (x := it) hmO
            obtain ⟨s1, s2⟩ := mid_swap (x := it) hmO
            obtain ⟨x0, x1, x2, x3, x4, x5⟩ := dCells_at _ (m + 1) hx1
            obtain ⟨y0, y1, y2, y3, y4, y5⟩ := dCells_at _ m hy1
            rw [hx2] at x0 x1 x2 x3 x4 x5
            rw [hy2] at y0 y1 y2 y3 y4 y5
            obtain ⟨gv', hgv', _, _, hgvl, hcell⟩ := own_cell hrow (by omega)
            simp only [Option.some.injEq, Addr.mk.injEq, and_true] at hgv'
            subst hgv'
            have a0 := hcell _ _ x0
            have a1 := hcell _ _ x1
            have a2 := hcell _ _ x2
            have a3 := hcell _ _ x3
            have a4 := hcell _ _ x4
            have a5 := hcell _ _ x5
            have b0 := hcell _ _ y0
            have b1 := hcell _ _ y1
            have b2 := hcell _ _ y2
            have b3 := hcell _ _ y3
            have b4 := hcell _ _ y4
            have b5 := hcell _ _ y5
            have HSW : Hid (swapped (dCells (O.take (m + 1) ++ it :: O.drop (m + 1))) m O[m] it = dCells (O.take m ++ it :: O.drop m)) := hid (by rw [s1, s2]; exact swapped_eq _ _ _ _ m (by simp; omega))
            obtain ⟨hzL, hzA⟩ := HMEM.out O[m] (List.getElem_mem hmO)
            have HC := hid (HAH.out it hmem O[m] hzL wr.drew (grown_drewN (grown_trans HG2.out hgr) 1))
            rw [hzA] at HC
            have HDR : Hid (lt it O[m] = true → ∀ b ∈ O.drop m, lt it b = true) := hid (fun h b hb => by
              rw [List.drop_eq_getElem_cons hmO] at hb
              rcases List.mem_cons.mp hb with rfl | hb
              · exact h
              · exact HALL.out b hb)
            have HX : Hid (lt it O[m] = false → dCells (O.take (m + 1) ++ it :: O.drop (m + 1)) = dCells (isort lt (L.take (mv + 1)))) := hid (fun h => HPUT.out (m + 1) hkO HALL.out (.inr ⟨hmO, by simpa using h⟩))
            obtain ⟨hr0, hr1, hr2, hr3, hr4, hr5⟩ := HIT.out
            obtain ⟨zz, hzz⟩ : ∃ zz, zz = O[m] := ⟨_, rfl⟩
            rw [← hzz] at b0 b1 b2 b3 b4 b5 HSW HC HDR HX
            obtain ⟨zr, hzr⟩ : ∃ zr : Int, zr = zz.rule := ⟨_, rfl⟩
            obtain ⟨z0, hz0'⟩ : ∃ z0, z0 = eI zz.env 0 := ⟨_, rfl⟩
            obtain ⟨z1, hz1'⟩ : ∃ z1, z1 = eI zz.env 1 := ⟨_, rfl⟩
            obtain ⟨z2, hz2'⟩ : ∃ z2, z2 = eI zz.env 2 := ⟨_, rfl⟩
            obtain ⟨z3, hz3'⟩ : ∃ z3, z3 = eI zz.env 3 := ⟨_, rfl⟩
            obtain ⟨zf, hzf⟩ : ∃ zf, zf = factsT zz.facts := ⟨_, rfl⟩
            unfold instV at HC
            unfold swapped at HSW
            rw [← hr0, ← hr1, ← hr2, ← hr3, ← hr4, ← hr5, ← hzr, ← hz0', ← hz1', ← hz2', ← hz3', ← hzf] at HC HSW
            rw [← hr0] at a0
            rw [← hr1] at a1
            rw [← hr2] at a2
            rw [← hr3] at a3
            rw [← hr4] at a4
            rw [← hr5] at a5
            rw [← hzr] at b0
            rw [← hz0'] at b1
            rw [← hz1'] at b2
            rw [← hz2'] at b3
            rw [← hz3'] at b4
            rw [← hzf] at b5
            obtain ⟨ok, hok⟩ : ∃ ok, ok = lt it zz := ⟨_, rfl⟩
            rw [← hok] at HC HDR HX
            have i1 : (0 : Int) ≤ (m : Int) + 1 := by omega
            have i2 : (m : Int) + 1 < (mv : Int) + 1 := by omega
            have i3 : (m : Int) < (mv : Int) + 1 := by omega
            have i4 : ((m : Int) + 1).toNat = m + 1 := by omega
            have i5 : IntKind.i64.wrap ((m : Int) + 1 - 1) = (m : Int) := by rw [show ((m : Int) + 1 - 1) = (m : Int) by omega]; exact Go.IntWalk.i64_in _ (by omega)
            have i6 : IntKind.i64.wrap (m : Int) = (m : Int) := Go.IntWalk.i64_in _ (by omega)
            rw [show ((m + 1 : Nat) : Int) = (m : Int) + 1 by omega]
            have HGRO : Hid (∀ w5, Fr [] wr w5 → w2.grownBy w5 none) := hid (fun w5 h => grown_trans HGR.out (grown_of_fr h))
            have HRK : Hid (∀ w5, Fr [] wr w5 → w5.ownsRow w2.heap.size 136 6 (.slice (some ⟨gv, 0, none⟩) (mv + 1) vc) (mv + 1) (dCells (O.take (m + 1) ++ it :: O.drop (m + 1)))) := hid (fun w5 h => own_kept HROW.out (grown_of_fr h) (fun g hg => by cases hg))
            clear hzz hzr hz0' hz1' hz2' hz3' hzf hr0 hr1 hr2 hr3 hr4 hr5 hok hcell x0 x1 x2 x3 x4 x5 y0 y1 y2 y3 y4 y5 hrow hgr s1 s2 hx1 hx2 hy1 hy2 hzA hzL
            go_wp2_with fail
            go_region_held3 (fun W => W.cell? ⟨gv, (m + 1) * 6, none⟩ = some (.int .i64 ru) ∧ W.cell? ⟨gv, (m + 1) * 6 + 1, none⟩ = some (.int .i64 e0) ∧ W.cell? ⟨gv, (m + 1) * 6 + 2, none⟩ = some (.int .i64 e1) ∧ W.cell? ⟨gv, (m + 1) * 6 + 3, none⟩ = some (.int .i64 e2) ∧ W.cell? ⟨gv, (m + 1) * 6 + 4, none⟩ = some (.int .i64 e3) ∧ W.cell? ⟨gv, (m + 1) * 6 + 5, none⟩ = some (.string ft) ∧ W.cell? ⟨gv, m * 6, none⟩ = some (.int .i64 zr) ∧ W.cell? ⟨gv, m * 6 + 1, none⟩ = some (.int .i64 z0) ∧ W.cell? ⟨gv, m * 6 + 2, none⟩ = some (.int .i64 z1) ∧ W.cell? ⟨gv, m * 6 + 3, none⟩ = some (.int .i64 z2) ∧ W.cell? ⟨gv, m * 6 + 4, none⟩ = some (.int .i64 z3) ∧ W.cell? ⟨gv, m * 6 + 5, none⟩ = some (.string zf)) (first | (with_reducible exact ⟨pa0, pa1, pa2, pa3, pa4, pa5, pb0, pb1, pb2, pb3, pb4, pb5⟩) | (simp only [World.cell?_drew]; with_reducible exact ⟨a0, a1, a2, a3, a4, a5, b0, b1, b2, b3, b4, b5⟩)) (first
              | (go_at_call 93
                 refine (HC.out).mono ?_
                 rintro er w6 ⟨rfl, hg6⟩
                 have hfr6 : Fr [] wr w6 := (fr_drew (Fr.refl [] wr)).trans (fr_none hg6)
                 have pa0 := keep0 hfr6 a0
                 have pa1 := keep0 hfr6 a1
                 have pa2 := keep0 hfr6 a2
                 have pa3 := keep0 hfr6 a3
                 have pa4 := keep0 hfr6 a4
                 have pa5 := keep0 hfr6 a5
                 have pb0 := keep0 hfr6 b0
                 have pb1 := keep0 hfr6 b1
                 have pb2 := keep0 hfr6 b2
                 have pb3 := keep0 hfr6 b3
                 have pb4 := keep0 hfr6 b4
                 have pb5 := keep0 hfr6 b5
                 have HF6 := hid hfr6
                 clear hfr6 hg6))
            cases ok with
            | false =>
              have HX2 := hid (HX.out rfl)
              have HFIN : Hid (w6.ownsRow w2.heap.size 136 6 (.slice (some ⟨gv, 0, none⟩) (mv + 1) vc) (mv + 1) (dCells (isort lt (L.take (mv + 1))))) := hid (by rw [← HX2.out]; exact HRK.out _ HF6.out)
              go_wp2_with fail
              go_roundw
              case rel => exact ⟨mv + 1, by omega, by go_num, HFIN.out, HGRO.out _ HF6.out⟩
              case measure => simp [intOf]; omega
            | true =>
              have hrow6 := HRK.out _ HF6.out
              have f0 := own_free hrow6 ((m + 1) * 6)
              have f1 := own_free hrow6 ((m + 1) * 6 + 1)
              have f2 := own_free hrow6 ((m + 1) * 6 + 2)
              have f3 := own_free hrow6 ((m + 1) * 6 + 3)
              have f4 := own_free hrow6 ((m + 1) * 6 + 4)
              have f5 := own_free hrow6 ((m + 1) * 6 + 5)
              have g0 := own_free hrow6 (m * 6)
              have g1 := own_free hrow6 (m * 6 + 1)
              have g2 := own_free hrow6 (m * 6 + 2)
              have g3 := own_free hrow6 (m * 6 + 3)
              have g4 := own_free hrow6 (m * 6 + 4)
              have g5 := own_free hrow6 (m * 6 + 5)
              have gv6 : gv < w6.heap.size := (hrow6.lt gv rfl).2
              have gvn : gv ≠ w6.heap.size := by omega
              have HR6 := hid hrow6
              have HGVB := hid (hrow6.lt gv rfl).1
              clear hrow6
              go_wp2_with fail
              go_roundw
              case rel =>
                refine ⟨m, by omega, rfl, ?_, ?_, HDR.out rfl⟩
                · rw [← HSW.out]
                  exact (own_set (own_set (own_set (own_set (own_set (own_set (own_set (own_set (own_set (own_set (own_set (own_set HR6.out _) _) _) _) _) _) _) _) _) _) _) _).alloc _
                · exact grown_alloc (grown_set (grown_set (grown_set (grown_set (grown_set (grown_set (grown_set (grown_set (grown_set (grown_set (grown_set (grown_set (HGRO.out _ HF6.out) (.inr HGVB.out) _) (.inr HGVB.out) _) (.inr HGVB.out) _) (.inr HGVB.out) _) (.inr HGVB.out) _) (.inr HGVB.out) _) (.inr HGVB.out) _) (.inr HGVB.out) _) (.inr HGVB.out) _) (.inr HGVB.out) _) (.inr HGVB.out) _) (.inr HGVB.out) _) _
              case measure => simp [intOf]
    · have e : L.take i = L := List.take_of_length_le (by omega)
      have ei : i = L.length := by omega
      subst ei
      rw [e] at HOW
      clear hown hg
      go_wp2_with fail
      go_ret
      exact ⟨_, rfl, own_mono HOW.out HG2.out.size, grown_trans HG2.out HG.out⟩

end Go.Proofs.YthlhbjnkohinmaaGreat
