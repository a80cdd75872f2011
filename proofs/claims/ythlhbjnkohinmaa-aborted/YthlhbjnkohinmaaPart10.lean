import Derived.Test.YthlhbjnkohinmaaPart09
/- The program's instantiations: written, the walk. -/
namespace Go.Proofs.Ythlhbjnkohinmaa
open Go.RowKit

/-- The text behind the first k, the next one's rule, and its first j facts. -/
def txJ (l : List In) (k j : Nat) : ByteArray := toldT (l.take k) ++ strOfNums [48 + (((l.getD k (In.start 0)).rule : Nat) : Int)] ++ factsT ((l.getD k (In.start 0)).facts.take j)
theorem txJ_zero (l : List In) (k : Nat) (hk : k < l.length) : txJ l k 0 = toldT (l.take k) ++ strOfNums [48 + (l[k].rule : Int)] := by
  have e : l.getD k (In.start 0) = l[k] := by simp [List.getD, List.getElem?_eq_getElem hk]
  unfold txJ
  rw [e]
  simp [factsT, joined]
theorem txJ_succ (l : List In) (k : Nat) (hk : k < l.length) (j : Nat) (hj : j < l[k].facts.length) : txJ l k (j + 1) = txJ l k j ++ factP l[k].facts[j].1 l[k].facts[j].2.1 := by
  have e : l.getD k (In.start 0) = l[k] := by simp [List.getD, List.getElem?_eq_getElem hk]
  unfold txJ
  rw [e, List.take_succ_eq_append_getElem hj]
  unfold factsT
  rw [List.map_append]
  show _ ++ joined (_ ++ [factP l[k].facts[j].1 l[k].facts[j].2.1]) = _
  rw [joined_snoc, ByteArray.append_assoc, ByteArray.append_assoc, ByteArray.append_assoc]
theorem txJ_all (l : List In) (k : Nat) (hk : k < l.length) : txJ l k l[k].facts.length ++ ⟨#[59]⟩ = toldT (l.take (k + 1)) := by
  have e : l.getD k (In.start 0) = l[k] := by simp [List.getD, List.getElem?_eq_getElem hk]
  rw [toldT_take l k hk]
  unfold txJ writT
  rw [e, List.take_length]
  simp only [ByteArray.append_assoc]
theorem txJ_size (l : List In) (k : Nat) (hk : k < l.length) (h : ∀ i ∈ l, i.facts.length ≤ 3) (hl : l.length ≤ 2160000) (j : Nat) : (txJ l k j).size ≤ 700000000 := by
  have e : l.getD k (In.start 0) = l[k] := by simp [List.getD, List.getElem?_eq_getElem hk]
  have h1 := toldT_size (l.take k) (fun i hi => by have := h i (List.mem_of_mem_take hi); omega)
  have h2 := List.length_take_le' k l
  unfold txJ
  rw [e, ByteArray.size_append, ByteArray.size_append, factsT_size]
  have h3 : (strOfNums [48 + (l[k].rule : Int)]).size = 1 := rfl
  have h4 := List.length_take_le' j l[k].facts
  have h5 := h l[k] (List.getElem_mem hk)
  omega

set_option maxRecDepth 20000 in
set_option maxHeartbeats 2000000 in
theorem pwrite_any (wt : Nat → Int) (l : List In) (a0 : Option Addr) (c0 : Nat) (w : World) (hl : l.length ≤ 2160000) (hok : ∀ i ∈ l, i.facts.length ≤ 3 ∧ i.rule ≤ 9 ∧ ∀ q ∈ i.facts, q.1 < 60 ∧ 0 ≤ q.2.1 ∧ q.2.1 ≤ 9)
    (hrow : 0 < l.length → ∃ g o, a0 = some ⟨g, o, none⟩ ∧ g < w.heap.size ∧ w.rangeAt g o (insW wt l)) :
    Calls Try.prog 39 #[.slice a0 l.length c0] w fun e w' => e = .returned (.string (toldT l)) ∧ w.grownBy w' none := by
  obtain ⟨i0, hi0, hz0, hz1, hz2⟩ := info_parts Try.infoB
  have HROW := hid hrow
  have HOK := hid hok
  have HTZ : Hid (∀ k, (toldT (l.take k)).size ≤ 700000000) := hid (fun k => by
    have h1 := toldT_size (l.take k) (fun i hi => by have := (hok i (List.mem_of_mem_take hi)).1; omega)
    have h2 := List.length_take_le' k l
    omega)
  have HTJ : Hid (∀ k (hk : k < l.length) j, (txJ l k j).size ≤ 700000000) := hid (fun k hk j => txJ_size l k hk (fun i hi => (hok i hi).1) hl j)
  clear hrow hok
  go_enter Try.func39, Try.ntmps39
  go_wp2_with fail
  go_loopw [3, 10] (fun t i wr => ∃ k : Nat, k ≤ l.length ∧ i = .int .i64 k ∧ wr.ownsRow w.heap.size 5 1 t (toldT (l.take k)).size (Lib.strCells (toldT (l.take k))) ∧ w.grownBy wr none) (fun _ i _ => l.length - (intOf i).toNat)
  case atStart => exact ⟨0, by omega, rfl, by simpa [toldT, joined, Lib.strCells] using World.ownsRow_nil w w.heap.size 5 1, grown_refl _ _⟩
  case round =>
    obtain ⟨k, hk, rfl, hown, hg⟩ := hrel
    have HG := hid hg
    have HOW := hid hown
    have hsz := hg.size
    by_cases hlt : k < l.length
    · obtain ⟨g, o, rfl, hgb, hrg⟩ := HROW.out (by omega)
      obtain ⟨hf3, hr9, hq⟩ := HOK.out l[k] (List.getElem_mem hlt)
      have HQ := hid hq
      obtain ⟨L, hL⟩ : ∃ L, L = inCells (wt l[k].rule) l[k] := ⟨_, rfl⟩
      have HRG : Hid (wr.rangeAt g (o + k * 24) L) := hid (by rw [hL]; exact range_grown (insW_at wt hrg hlt) hg)
      have hLl : L.length = 24 := by rw [hL]; rfl
      have HIL : Hid ((Try.prog.info? 138).map (·.size) = some L.length) := hid (by rw [hLl]; exact info_inst)
      have HONA : Hid (L.toArray.all (·.oneCell') = true) := hid (all_oneCell_toArray (by rw [hL]; exact inCells_one _ _))
      have HBN : Hid ((wr.alloc (.cells L.toArray 138)).heap[wr.heap.size]? = some (.cells L.toArray 138 (0, 0))) := hid (heap_alloc_new wr _)
      obtain ⟨rl, hrl⟩ : ∃ rl, rl = l[k].rule := ⟨_, rfl⟩
      obtain ⟨nf, hnf⟩ : ∃ nf, nf = l[k].facts.length := ⟨_, rfl⟩
      have hrb : rl ≤ 9 := by omega
      have hnb : nf ≤ 3 := by omega
      have c0' : (wr.alloc (.cells L.toArray 138)).cell? ⟨wr.heap.size, 0, none⟩ = some (.int .i64 rl) := cell_list HBN.out (by rw [hL, hrl]; rfl)
      have HL3 : Hid (L[3]? = some (.int .i64 nf)) := hid (by rw [hL, hnf]; rfl)
      have HLQ : Hid (∀ j (hj : j < l[k].facts.length), ∀ x v, (facL l[k].facts[j])[x]? = some v → L[4 + j * 4 + x]? = some v) := hid (fun j hj x v hv => by
        have ef : ftA l[k].facts j = l[k].facts[j] := by simp [ftA, List.getD, List.getElem?_eq_getElem hj]
        have hx := (List.getElem?_eq_some_iff.1 hv).1
        rw [facL_len] at hx
        rw [← ef] at hv
        rw [hL, ← hv]
        match j, (show j < 3 by omega), x, hx with
        | 0, _, 0, _ => rfl
        | 0, _, 1, _ => rfl
        | 0, _, 2, _ => rfl
        | 0, _, 3, _ => rfl
        | 1, _, 0, _ => rfl
        | 1, _, 1, _ => rfl
        | 1, _, 2, _ => rfl
        | 1, _, 3, _ => rfl
        | 2, _, 0, _ => rfl
        | 2, _, 1, _ => rfl
        | 2, _, 2, _ => rfl
        | 2, _, 3, _ => rfl)
      obtain ⟨ta, tm, tc, rfl⟩ := own_slice hown
      have em := own_len hown
      subst em
      have hts := HTZ.out k
      have HZ := hid (txJ_zero l k hlt)
      have HSU := hid (txJ_succ l k hlt)
      have HAL := hid (txJ_all l k hlt)
      have HTK := hid (HTJ.out k hlt)
      have hne : g ≠ wr.heap.size := by omega
      have hgl : g < wr.heap.size := by omega
      rw [← hrl] at HZ
      rw [← hnf] at HAL
      have HS1 : Hid (∀ (w3 : World) (v' : Value), w3.ownsRow w.heap.size 5 1 v' ((toldT (l.take k)).size + 1) (Lib.strCells (toldT (l.take k)) ++ [.int .u8 (48 + (rl : Int))]) → w3.ownsRow w.heap.size 5 1 v' (txJ l k 0).size (Lib.strCells (txJ l k 0))) := hid (fun w3 v' h => by
        rw [HZ.out, strCells_app, strCells_num (by omega) (by omega), ByteArray.size_append]
        exact h)
      have how1 := own_kept HOW.out (grown_alloc (grown_alloc (grown_refl wr none) (.cells L.toArray 138)) (.cells #[.int .u8 (48 + (rl : Int))] 5)) (fun g hg => by cases hg)
      have HNW : Hid (∀ (j : Nat) (u : Value), ([.int .u8 (48 + (rl : Int))] : List Value)[j]? = some u → ((wr.alloc (.cells L.toArray 138)).alloc (.cells #[.int .u8 (48 + (rl : Int))] 5)).cell? ((⟨wr.heap.size + 1, 0, none⟩ : Addr).add j) = some u) := hid (fun j u hj => by
        have := news_at1 (w := wr.alloc (.cells L.toArray 138)) (t := 5) hj
        rw [show (wr.alloc (.cells L.toArray 138)).heap.size = wr.heap.size + 1 by simp] at this
        exact this)
      have HLT := hid (fun g hg => (HOW.out.lt g hg).1)
      have HOB : Hid (∀ g, (Value.slice ta (toldT (l.take k)).size tc).ownBlock = some g → g < wr.heap.size) := hid (fun g hg => (HOW.out.lt g hg).2)
      obtain ⟨t0, ht0⟩ : ∃ t0, t0 = toldT (l.take k) := ⟨_, rfl⟩
      rw [← ht0] at how1 HLT HOB HS1 hts ⊢
      have w48 : (48 : Int) + (rl : Int) ≤ 255 := by omega
      have HNF := hid hnf
      clear ht0 hL hown hg hq hrl hnf hrg HZ
      go_wp2_with (first
        | (refine wpList_load_mid rfl 138 (.tmp 12) rfl g (o + k * 24) rfl L _ HRG.out Try.underlying138 rfl HIL.out ?_)
        | (refine wpList_store_new rfl 138 (.tmp 5) (.tmp 13) rfl _ L rfl rfl hLl.symm HIL.out HONA.out ?_)
        | (at_builtin; refine wpList_append_own _ rfl (.tmp 14) (.tmp 19) 99 rfl (w.heap.size) 5 i0 (.int .u8 0) 1 1 Try.underlying99 hi0 hz0 hz1 hz2 rfl (by decide) _ _ _ rfl how1 _ 1 1 [.int .u8 (48 + (rl : Int))] rfl rfl HNW.out (by simp [Value.oneCell']) (by unfold maxLen; omega) (by omega) (by simp; omega) ?_))
      intro v1 w3 hown3 hg3 _
      have HO3 := hid (HS1.out _ _ hown3)
      have HG3 : Hid (w.grownBy w3 none) := hid (grown_own2 (grown_trans HG.out (grown_alloc (grown_alloc (grown_refl wr none) _) _)) hg3 HLT.out)
      have HB3 : Hid (w3.heap[wr.heap.size]? = some (.cells L.toArray 138 (0, 0))) := hid (by
        have h4 := (Below.heap_alloc (wr.alloc (.cells L.toArray 138)) (.cells #[.int .u8 (48 + (rl : Int))] 5) _ (lt_of_block HBN.out)).trans HBN.out
        exact (hg3.block _ (lt_of_block h4) (fun e => by
          have := HOB.out _ e.symm
          omega)).trans h4)
      clear hown3 hg3 how1 HS1 c0'
      go_wp2_with fail
      go_loopw [3, 6] (fun t i wr2 => ∃ j : Nat, j ≤ nf ∧ i = .int .i64 j ∧ wr2.ownsRow w.heap.size 5 1 t (txJ l k j).size (Lib.strCells (txJ l k j)) ∧ w.grownBy wr2 none ∧ wr2.heap[wr.heap.size]? = some (.cells L.toArray 138 (0, 0))) (fun _ i _ => nf - (intOf i).toNat)
      case atStart => exact ⟨0, by omega, rfl, HO3.out, HG3.out, HB3.out⟩
      case round =>
        rename World => wr2
        obtain ⟨j, hj, rfl, hown, hg2, hbl⟩ := hrel
        have HG2 := hid hg2
        have HOW2 := hid hown
        have HBL := hid hbl
        have hsz2 := hg2.size
        have hbs := lt_of_block hbl
        have d3 : wr2.cell? ⟨wr.heap.size, 3, none⟩ = some (.int .i64 nf) := cell_list hbl HL3.out
        obtain ⟨ua, um, uc, rfl⟩ := own_slice hown
        have em2 := own_len hown
        subst em2
        have hts2 := HTK.out j
        have HLT2 := hid (fun g hg => (HOW2.out.lt g hg).1)
        have HNB : Hid (∀ g, (Value.slice ua (txJ l k j).size uc).ownBlock = some g → g ≠ wr.heap.size) := hid (fun g hg e => by
          subst e
          exact own_ne_ty HOW2.out HBL.out (by decide) hg)
        by_cases hltj : j < nf
        · have hjf : j < l[k].facts.length := by have := HNF.out; omega
          obtain ⟨Q, hQ⟩ : ∃ Q, Q = facL l[k].facts[j] := ⟨_, rfl⟩
          have hQl : Q.length = 4 := by rw [hQ]; rfl
          have HIQ : Hid ((Try.prog.info? 97).map (·.size) = some Q.length) := hid (by rw [hQl]; exact info_fact)
          have HRQ : Hid (wr2.rangeAt wr.heap.size (4 + j * 4) Q) := hid (range_drop hbl (fun x v hv => by rw [hQ] at hv; exact HLQ.out j hjf x v hv))
          obtain ⟨q1, q2, q3⟩ := HQ.out l[k].facts[j] (List.getElem_mem hjf)
          have HTX : Hid (∀ W, Calls Try.prog 33 #[.agg Q.toArray] W fun e w' => e = .returned (.string (factP l[k].facts[j].1 l[k].facts[j].2.1)) ∧ W.grownBy w' none) := hid (fun W => by
            rw [hQ]
            exact facttext_any l[k].facts[j].1 l[k].facts[j].2.1 l[k].facts[j].2.2 W q1 q2 q3)
          have HSJ := hid (HSU.out j hjf)
          have hfz := size_factP l[k].facts[j].1 l[k].facts[j].2.1
          obtain ⟨ft, hft⟩ : ∃ ft, ft = factP l[k].facts[j].1 l[k].facts[j].2.1 := ⟨_, rfl⟩
          rw [← hft] at HTX HSJ hfz
          have HS2 : Hid (∀ (w4 : World) (v' : Value), w4.ownsRow w.heap.size 5 1 v' ((txJ l k j).size + 3) (Lib.strCells (txJ l k j) ++ Lib.strCells ft) → w4.ownsRow w.heap.size 5 1 v' (txJ l k (j + 1)).size (Lib.strCells (txJ l k (j + 1)))) := hid (fun w4 v' h => by
            rw [HSJ.out, strCells_app, ByteArray.size_append, hfz]
            exact h)
          obtain ⟨t1, ht1⟩ : ∃ t1, t1 = txJ l k j := ⟨_, rfl⟩
          rw [← ht1] at HOW2 HLT2 HNB HS2 hts2 ⊢
          have j3 : (j : Int) < 3 := by omega
          have j0 : (0 : Int) ≤ (j : Int) := by omega
          clear ht1 hft hQ hown hg2 hbl q1 q2 q3 HSJ HLQ HSU
          go_wp2_with (first
            | (refine wpList_load_mid rfl 97 (.tmp 33) rfl wr.heap.size (4 + j * 4) rfl Q _ HRQ.out Try.underlying97 rfl HIQ.out ?_))
          go_at_call 33
          refine (HTX.out _).mono ?_
          rintro e w4 ⟨rfl, hg4⟩
          have HG4 := hid hg4
          have hs4 := hg4.size
          have how4 := own_kept HOW2.out hg4 (fun g hg => by cases hg)
          clear hg4
          go_wp2_with (first
            | (at_builtin; refine Lib.wpList_append_own_string _ rfl (.tmp 36) (.tmp 37) 99 9 rfl (w.heap.size) 5 i0 Try.underlying99 Try.underlying9 hi0 hz0 hz1 hz2 _ _ _ rfl how4 ft rfl (by unfold maxLen; omega) (by omega) (by omega) ?_))
          intro v5 w5 hown5 hg5 _
          have HO5 := hid (HS2.out _ _ hown5)
          have HG5 : Hid (w.grownBy w5 none) := hid (grown_own2 (grown_trans HG2.out HG4.out) hg5 HLT2.out)
          have HB5 : Hid (w5.heap[wr.heap.size]? = some (.cells L.toArray 138 (0, 0))) := hid (by
            have h4 := (HG4.out.block _ hbs (by simp)).trans HBL.out
            exact (hg5.block _ (lt_of_block h4) (fun e => HNB.out _ e.symm rfl)).trans h4)
          clear hown5 hg5 how4
          go_wp2_with fail
          go_roundw
          case rel => exact ⟨j + 1, by omega, by go_num, HO5.out, HG5.out, HB5.out⟩
          case measure => simp [intOf]; omega
        · have ej : j = nf := by omega
          subst ej
          have HS2 : Hid (∀ (w4 : World) (v' : Value), w4.ownsRow w.heap.size 5 1 v' ((txJ l k j).size + 1) (Lib.strCells (txJ l k j) ++ [.int .u8 59]) → w4.ownsRow w.heap.size 5 1 v' (toldT (l.take (k + 1))).size (Lib.strCells (toldT (l.take (k + 1))))) := hid (fun w4 v' h => by
            rw [← HAL.out, strCells_app, strCells_semi, ByteArray.size_append]
            exact h)
          have how4 := own_kept HOW2.out (grown_alloc (grown_refl wr2 none) (.cells #[.int .u8 59] 5)) (fun g hg => by cases hg)
          obtain ⟨t1, ht1⟩ : ∃ t1, t1 = txJ l k j := ⟨_, rfl⟩
          rw [← ht1] at HOW2 HLT2 HNB HS2 hts2 how4 ⊢
          clear ht1 hown hg2 hbl HLQ HSU
          go_wp2_with (first
            | (at_builtin; refine wpList_append_own _ rfl (.tmp 39) (.tmp 40) 99 rfl (w.heap.size) 5 i0 (.int .u8 0) 1 1 Try.underlying99 hi0 hz0 hz1 hz2 rfl (by decide) _ _ _ rfl how4 _ 1 1 [.int .u8 59] rfl rfl (fun j u hj => news_at1 hj) (by simp [Value.oneCell']) (by unfold maxLen; omega) (by omega) (by simp; omega) ?_))
          intro v5 w5 hown5 hg5 _
          have HO5 := hid (HS2.out _ _ hown5)
          have HG5 : Hid (w.grownBy w5 none) := hid (grown_own2 (grown_trans HG2.out (grown_alloc (grown_refl wr2 none) _)) hg5 HLT2.out)
          clear hown5 hg5 how4
          go_wp2_with fail
          go_roundw
          case rel => exact ⟨k + 1, by omega, by go_num, HO5.out, HG5.out⟩
          case measure => simp [intOf]; omega
    · have hkl : k = l.length := by omega
      subst hkl
      rw [List.take_length] at HOW hown
      have hcv := own_string hown
      clear hg hown
      go_wp2_with fail
      go_ret
      exact ⟨rfl, HG.out⟩

end Go.Proofs.Ythlhbjnkohinmaa

/- The program's Matches. -/
namespace Go.Proofs.Ythlhbjnkohinmaa
open Go.RowKit

theorem pordered_own (wt : Nat → Int) (l : List In) (v : Value) (B : Nat) (w : World) (hl : l.length ≤ 2160000) (h : w.ownsRow B 138 24 v l.length (insW wt l)) :
    Calls Try.prog 38 #[v] w fun e w' => ∃ a c, e = .returned (.slice a (isort (ltI wt) l).length c) ∧ (0 < (isort (ltI wt) l).length → ∃ g o, a = some ⟨g, o, none⟩ ∧ g < w'.heap.size ∧ w'.rangeAt g o (insW wt (isort (ltI wt) l))) ∧ w.grownBy w' none := by
  obtain ⟨a, m, c, rfl⟩ := own_slice h
  have em := own_len h
  subst em
  rw [isort_len]
  by_cases hz : l.length = 0
  · rw [hz]
    refine (pordered_none c a w).mono ?_
    rintro e w' ⟨rfl, rfl⟩
    exact ⟨a, c, rfl, fun h => by omega, grown_refl _ _⟩
  · have hcap := own_cap h
    obtain ⟨g, rfl, _, _, hgl, hcell⟩ := own_cell h (by omega)
    refine (pordered_any wt l.length l g 0 c w rfl hl (by omega) hcap hgl (fun j v hv => by rw [Nat.zero_add]; exact hcell j v hv)).mono ?_
    rintro e w' ⟨g', o', c', rfl, _, h2, h3, h4⟩
    exact ⟨_, c', rfl, fun _ => ⟨g', o', rfl, h2, h3⟩, h4⟩

theorem instK_ok {z : Int} {s : ByteArray} {F : List PFact} (hF : FOk F) (r : Nat) (L : List Nat) : ∀ i ∈ instR z s F r L, InOk F i := by
  have key : ∀ (L : List Nat) (l : List In), (∀ i ∈ l, InOk F i) → ∀ i ∈ L.foldl (onC z s F) l, InOk F i := by
    intro L
    induction L with
    | nil => intro l h; exact h
    | cons p L ih => intro l h; exact ih _ (onC_ok hF h p)
  unfold instR
  refine key L _ (fun i hi => ?_)
  simp at hi
  subst hi
  exact start_ok F r
theorem instN_ok {s : ByteArray} {F : List PFact} (hF : FOk F) (hFl : F.length ≤ 60) {R : List RuleP} (hR : ∀ r ∈ R, RulW s r) (hR9 : R.length ≤ 9) : ∀ i ∈ instN 0 s F R R.length, i.facts.length ≤ 3 ∧ i.rule ≤ 9 ∧ ∀ q ∈ i.facts, q.1 < 60 ∧ 0 ≤ q.2.1 ∧ q.2.1 ≤ 9 := by
  intro i hi
  unfold instN at hi
  obtain ⟨k, hk, hm⟩ := List.mem_flatMap.mp hi
  have hk' : k < R.length := by simpa using hk
  have e : R.getD k (0, [], []) = R[k] := by simp [List.getD, List.getElem?_eq_getElem hk']
  rw [e] at hm
  obtain ⟨h1, h2⟩ := instR_mem hFl k (hR _ (List.getElem_mem hk')) i hm
  exact ⟨h1, by omega, fun q hq => hF q ((instK_ok hF k _ i hm).facts q hq)⟩

set_option maxRecDepth 20000 in
set_option maxHeartbeats 2000000 in
theorem pmatches_some (x : Nat) (X : PEng) (kv : Nat → Value) (n : Int) (k : Nat) (s : ByteArray) (R : List RuleP) (rv : Value) (B : Nat) (fd : In → Bool) (w : World) (h : PAt w x X kv) (hR : HRows w X kv) (hl : ∀ c, c < 60 → (X.hist c).length ≤ 9223372036854775807) (hf : findP X n = some k) (hd : Digs (seenP X k))
    (hsrc : X.src.1.1 = rv) (hrl : RulesOwn w B s rv R) (hRW : ∀ r ∈ R, RulW s r) (hR9 : R.length ≤ 9)
    (HHAS : Hid (∀ (j : Nat) (hj : j < R.length) (i : In) (W : World), i ∈ instR 0 s (sawX X k) j R[j].2.1 → w.grownBy W none → Calls Try.prog 58 #[.pointer (some ⟨x, 3 + k * 244 + 243, none⟩), .agg (inCells (wgt s R j) i).toArray] W fun e w' => e = .returned (.bool (fd i)) ∧ W.grownBy w' none)) :
    Calls Try.prog 17 #[.pointer (some ⟨x, 0, none⟩), .int .i64 n] w fun e w' => e = .returned (.tuple #[.string (toldT (isort (ltI (wgt s R)) (opN s (sawX X k) R fd R.length))), .int .i64 0]) ∧ w.grownBy w' none := by
  have HF := hid (findp_any x X n w h.ses)
  rw [hf] at HF
  have hk : k < 8 := by
    unfold findP at hf
    split at hf
    · cases hf
    · exact (numberedP_some hf).1
  have HSE := hid (pseen_any x X kv k w hk h hR hl)
  have hFO : FOk (sawX X k) := fun q hq => ⟨(sawX_mem hq).1, hd q.1 q.2.1 (sawX_mem hq).1 (sawX_mem hq).2⟩
  have hFl := sawX_le X k
  have hc0 := h.rules
  rw [hsrc] at hc0
  have hxl := h.lt
  obtain ⟨F, hF⟩ : ∃ F, F = sawX X k := ⟨_, rfl⟩
  rw [← hF] at HSE HHAS hFO hFl ⊢
  obtain ⟨ra, rm, rc, rfl⟩ : ∃ a m c, rv = .slice a m c := by
    obtain ⟨xs, h1, _⟩ := hrl
    exact own_slice h1
  have erm : rm = R.length := by
    obtain ⟨xs, h1, _⟩ := hrl
    exact own_len h1
  subst erm
  have hrl' : ∀ W, w.grownBy W none → RulesOwn W B s (.slice ra R.length rc) R := fun W hW => by
    obtain ⟨xs, h1, h2⟩ := hrl
    exact ⟨xs, own_kept h1 hW (fun g hg => by cases hg), Parts_kept hW (fun g hg => by cases hg) R xs h2⟩
  have HOP : Hid (∀ (W : World) (fa : Option Addr) (fc B2 : Nat), w.grownBy W none → W.ownsRow B2 97 4 (.slice fa F.length fc) F.length (fcCells F) → Calls Try.prog 37 #[.slice ra R.length rc, .slice fa F.length fc, .pointer (some ⟨x, 3 + k * 244 + 243, none⟩)] W fun e w' => ∃ v, e = .returned v ∧ w'.ownsRow W.heap.size 138 24 v (opN s F R fd R.length).length (insW (wgt s R) (opN s F R fd R.length)) ∧ W.grownBy w' none) := hid (fun W fa fc B2 hW hfr =>
    popens_any s F R ra fa rc fc B B2 x (3 + k * 244 + 243) fd W hRW hR9 (hrl' W hW) hFl hfr (hid (fun j hj i W2 hi hW2 => HHAS.out j hj i W2 hi (grown_trans hW hW2))))
  have hOl : (opN s F R fd R.length).length ≤ 2160000 := by
    have h1 := instN_le hFl hRW R.length (Nat.le_refl _)
    have h2 := List.length_filter_le (fun i => !fd i) (instN 0 s F R R.length)
    unfold opN
    omega
  have hOk : ∀ i ∈ opN s F R fd R.length, i.facts.length ≤ 3 ∧ i.rule ≤ 9 ∧ ∀ q ∈ i.facts, q.1 < 60 ∧ 0 ≤ q.2.1 ∧ q.2.1 ≤ 9 := fun i hi => instN_ok hFO hFl hRW hR9 i (List.mem_filter.mp hi).1
  obtain ⟨O, hO⟩ : ∃ O, O = opN s F R fd R.length := ⟨_, rfl⟩
  rw [← hO] at HOP hOl hOk ⊢
  have HOR := hid (fun v B W => pordered_own (wgt s R) O v B W hOl)
  obtain ⟨M, hM⟩ : ∃ M, M = isort (ltI (wgt s R)) O := ⟨_, rfl⟩
  have HWR : Hid (∀ (a : Option Addr) (c : Nat) (W : World), (0 < M.length → ∃ g o, a = some ⟨g, o, none⟩ ∧ g < W.heap.size ∧ W.rangeAt g o (insW (wgt s R) M)) → Calls Try.prog 39 #[.slice a M.length c] W fun e w' => e = .returned (.string (toldT M)) ∧ W.grownBy w' none) := hid (fun a c W hr => by
    refine pwrite_any (wgt s R) M a c W (by rw [hM, isort_len]; exact hOl) (fun i hi => hOk i ?_) hr
    rw [hM] at hi
    exact isort_mem.mp hi)
  rw [← hM] at HOR ⊢
  have HC0 := hid hc0
  clear h hR hl hf hd hsrc hrl hrl' hRW hF hO hM hFO hOk hc0 HHAS
  go_enter Try.func17, Try.ntmps17
  go_wp2_with fail
  go_at_call 31
  refine HF.out.mono ?_
  rintro e w' ⟨rfl, rfl⟩
  simp only [placeV]
  go_wp2_with fail
  go_at_call 32
  refine HSE.out.mono ?_
  rintro e w1 ⟨v, rfl, hown, hg1⟩
  obtain ⟨a, m, c, rfl⟩ := own_slice hown
  have em := own_len hown
  subst em
  have HG1 := hid hg1
  have HOW := hid hown
  have hc1 := grown_cell hg1 HC0.out
  clear HSE hg1 hown HF
  go_wp2_with fail
  go_region_held3 (fun W => W.cell? ⟨x, 0, none⟩ = some (.slice ra R.length rc)) (first | go_keep | (exact grown_cell hg2 (by assumption))) (first
    | (go_at_call 37
       refine (HOP.out _ _ _ _ (grown_drewN HG1.out 1) (own_kept HOW.out (grown_drewN (grown_refl w1 none) 1) (fun g hg => by cases hg))).mono ?_
       rintro e w2 ⟨v2, rfl, ho2, hg2⟩
       have HO2 := hid ho2
       clear ho2))
  have HG2 : Hid (w'.grownBy w2 none) := hid (grown_trans HG1.out (grown_undrew (n := 1) hg2))
  clear hg2
  go_wp2_with fail
  go_at_call 38
  refine (HOR.out _ _ _ HO2.out).mono ?_
  rintro e w3 ⟨a3, c3, rfl, hr3, hg3⟩
  have HR3 := hid hr3
  have HG3 := hid hg3
  clear hr3 hg3
  go_wp2_with fail
  go_at_call 39
  refine (HWR.out _ _ _ HR3.out).mono ?_
  rintro e w4 ⟨rfl, hg4⟩
  have HG4 := hid hg4
  clear hg4
  go_wp2_with fail
  go_ret2
  exact ⟨rfl, grown_trans HG2.out (grown_trans HG3.out HG4.out)⟩
theorem pmatches_none (x : Nat) (X : PEng) (kv : Nat → Value) (n : Int) (w : World) (h : PAt w x X kv) (hf : findP X n = none) :
    Calls Try.prog 17 #[.pointer (some ⟨x, 0, none⟩), .int .i64 n] w fun e w' => e = .returned (.tuple #[.string ByteArray.empty, .int .i64 6]) ∧ w.grownBy w' none := by
  have HF := hid (findp_any x X n w h.ses)
  rw [hf] at HF
  clear h hf
  go_enter Try.func17, Try.ntmps17
  go_wp2_with fail
  go_at_call 31
  refine HF.out.mono ?_
  rintro e w' ⟨rfl, rfl⟩
  simp only [placeV]
  go_wp2
  go_ret2
  exact ⟨rfl, grown_refl _ _⟩

end Go.Proofs.Ythlhbjnkohinmaa

/- The program's actions: what they come to. -/
namespace Go.Proofs.Ythlhbjnkohinmaa
open Go.RowKit

/-- What an action writes; none: an expression is no digit. -/
def effA (s : ByteArray) (e : Env) (p : Nat) : Option (Nat × Option Int) :=
  if bt s p = 43 then
    (if (0 ≤ ofE 0 e (bt s (p + 2)) + exS (bt s (p + 3)) ∧ ofE 0 e (bt s (p + 2)) + exS (bt s (p + 3)) < 10) ∧ 0 ≤ ofE 0 e (bt s (exJ s (p + 2))) + exS (bt s (exJ s (p + 2) + 1)) ∧ ofE 0 e (bt s (exJ s (p + 2))) + exS (bt s (exJ s (p + 2) + 1)) < 10
      then some (((bt s (p + 1) - 97) * 10 + (ofE 0 e (bt s (p + 2)) + exS (bt s (p + 3)))).toNat, some (ofE 0 e (bt s (exJ s (p + 2))) + exS (bt s (exJ s (p + 2) + 1)))) else none)
  else (if 0 ≤ ofE 0 e (bt s (p + 2)) + exS (bt s (p + 3)) ∧ ofE 0 e (bt s (p + 2)) + exS (bt s (p + 3)) < 10
      then some (((bt s (p + 1) - 97) * 10 + (ofE 0 e (bt s (p + 2)) + exS (bt s (p + 3)))).toNat, none) else none)
/-- What actions come to: what is written, and whether the run ends. -/
def outA (s : ByteArray) (e : Env) (K : List Nat) : Option (List (Nat × Option Int) × Bool) := K.foldl (fun o p => o.bind fun q => if bt s p = 46 then some (q.1, true) else (effA s e p).map fun x => (q.1 ++ [x], q.2)) (some ([], false))
theorem outA_take (s : ByteArray) (e : Env) (K : List Nat) (j : Nat) (hj : j < K.length) : outA s e (K.take (j + 1)) = (outA s e (K.take j)).bind fun q => if bt s K[j] = 46 then some (q.1, true) else (effA s e K[j]).map fun x => (q.1 ++ [x], q.2) := by
  unfold outA
  rw [List.take_succ_eq_append_getElem hj, List.foldl_append]
  rfl
theorem outA_none (s : ByteArray) (e : Env) (K : List Nat) : ∀ j, outA s e (K.take j) = none → outA s e K = none := by
  intro j h
  have : ∀ (l : List Nat), l.foldl (fun o p => o.bind fun q => if bt s p = 46 then some (q.1, true) else (effA s e p).map fun x => (q.1 ++ [x], q.2)) (none : Option (List (Nat × Option Int) × Bool)) = none := by
    intro l
    induction l with
    | nil => rfl
    | cons p l ih => exact ih
  unfold outA at h ⊢
  rw [← List.take_append_drop j K, List.foldl_append, h]
  exact this _
theorem outA_len (s : ByteArray) (e : Env) (K : List Nat) : ∀ j, j ≤ K.length → ∀ q, outA s e (K.take j) = some q → q.1.length ≤ j
  | 0, _, q, h => by
    have : q = ([], false) := by simpa [outA] using h.symm
    rw [this]
    simp
  | j + 1, hj, q, h => by
    rw [outA_take s e K j (by omega)] at h
    cases ho : outA s e (K.take j) with
    | none => rw [ho] at h; cases h
    | some r =>
      have ih := outA_len s e K j (by omega) r ho
      rw [ho] at h
      simp only [Option.bind_some] at h
      split at h
      · cases h; simp only; omega
      · cases hx : effA s e (K[j]'(by omega)) with
        | none => rw [hx] at h; cases h
        | some x =>
          rw [hx] at h
          cases h
          simp only [List.length_append, List.length_cons, List.length_nil]
          omega
/-- An effect's cells. -/
def efL (q : Nat × Option Int) : List Value := [.int .i64 q.1, .bool q.2.isSome, .int .i64 (q.2.getD 0)]
def efC (l : List (Nat × Option Int)) : List Value := l.flatMap efL
theorem efL_one (q : Nat × Option Int) : ∀ v ∈ efL q, v.oneCell' = true := by
  intro v hv
  simp only [efL, List.mem_cons, List.not_mem_nil, or_false] at hv
  rcases hv with h | h | h <;> rw [h] <;> rfl
/-- An action's cells. -/
def acL (s : ByteArray) (p : Nat) : List Value := [.int .i64 (acV s p).k, .int .i64 (acV s p).c, .int .i64 (acV s p).a1, .int .i64 (acV s p).a2, .int .i64 (acV s p).a3, .int .i64 (acV s p).b1, .int .i64 (acV s p).b2, .int .i64 (acV s p).b3]
theorem acL_one (s : ByteArray) (p : Nat) : ∀ v ∈ acL s p, v.oneCell' = true := by
  intro v hv
  simp only [acL, List.mem_cons, List.not_mem_nil, or_false] at hv
  rcases hv with h | h | h | h | h | h | h | h <;> rw [h] <;> rfl
theorem exS_bd (c : Int) : -1 ≤ exS c ∧ exS c ≤ 1 := by
  unfold exS
  split
  · omega
  · split <;> omega
theorem ofE_bd {e : Env} {t : Int} (_hs : simB t = true) (he : ∀ n v, e n = some v → 0 ≤ v ∧ v ≤ 9) : 0 ≤ ofE 0 e t ∧ ofE 0 e t ≤ 9 := by
  unfold ofE
  split
  · rename_i h
    simp [digB] at h
    omega
  · cases h : e (t - 119).toNat with
    | none => simp
    | some v =>
      have := he _ v h
      simpa using this
theorem presult_any (e : Env) (t u : Int) (w : World) (hs : simB t = true) (he : ∀ n v, e n = some v → 0 ≤ v ∧ v ≤ 9) :
    Calls Try.prog 88 #[.agg (digL e).toArray, .agg #[.int .i64 (opK t), .int .i64 (opV t), .int .i64 (exS u)]] w fun r w' => r = .returned (.tuple #[.int .i64 (ofE 0 e t + exS u), .bool (decide (0 ≤ ofE 0 e t + exS u) && decide (ofE 0 e t + exS u < 10))]) ∧ w.grownBy w' none :=
  presult_cells (digL e) [.int .i64 (opK t), .int .i64 (opV t), .int .i64 (exS u)] (ofE 0 e t) (exS u) w rfl rfl rfl (ofE_bd hs he) (exS_bd u) (hid (fun W => by
    refine (pof_core (dB e 0) (dB e 1) (dB e 2) (dB e 3) _ _ _ _ _ _ _ W (pof_case e t hs)).mono ?_
    rintro r w' ⟨rfl, rfl⟩
    exact ⟨rfl, grown_alloc (grown_alloc (grown_refl _ _) _) _⟩))
/-- What the program answers of an action. -/
def effV (s : ByteArray) (e : Env) (p : Nat) (v : Value) : Prop := match effA s e p with
  | some x => v = .tuple #[.agg (efL x).toArray, .bool true]
  | none => ∃ c b d, v = .tuple #[.agg #[.int .i64 c, .bool b, .int .i64 d], .bool false]
theorem peffect_any (s : ByteArray) (e : Env) (p : Nat) (w : World) (hok : acOk s p = true) (h46 : bt s p ≠ 46) (he : ∀ n v, e n = some v → 0 ≤ v ∧ v ≤ 9) :
    Calls Try.prog 79 #[.agg (digL e).toArray, .agg (acL s p).toArray] w fun r w' => (∃ v, r = .returned v ∧ effV s e p v) ∧ w.grownBy w' none := by
  unfold acOk at hok
  by_cases h43 : bt s p = 43
  · rw [if_pos h43] at hok
    unfold filOk at hok
    simp only [Bool.and_eq_true] at hok
    obtain ⟨⟨h1, h2'⟩, h3'⟩ := hok
    have h2 : simB (bt s (p + 2)) = true := h2'
    have h3 : simB (bt s (exJ s (p + 2))) = true := h3'
    have ea : acV s p = filV s (p + 1) := by simp [acV, h43]
    have hc : 0 ≤ bt s (p + 1) - 97 ∧ bt s (p + 1) - 97 ≤ 5 := by simp [clsB] at h1; omega
    have b1 := ofE_bd h2 he
    have b2 := exS_bd (bt s (p + 3))
    have b3 := ofE_bd h3 he
    have b4 := exS_bd (bt s (exJ s (p + 2) + 1))
    have := peffect_cells (digL e) (acL s p) 1 (bt s (p + 1) - 97) (ofE 0 e (bt s (p + 2)) + exS (bt s (p + 3))) (ofE 0 e (bt s (exJ s (p + 2))) + exS (bt s (exJ s (p + 2) + 1))) _ _ w rfl rfl (by rw [acL, ea]; rfl) (by rw [acL, ea]; rfl) (.inl rfl) hc (by omega)
      (hid (fun W => by
        have := presult_any e (bt s (p + 2)) (bt s (p + 3)) W h2 he
        unfold acL
        rw [ea]
        exact this))
      (hid (fun _ W => by
        have := presult_any e (bt s (exJ s (p + 2))) (bt s (exJ s (p + 2) + 1)) W h3 he
        unfold acL
        rw [ea]
        exact this))
    refine this.mono ?_
    rintro r w' ⟨rfl, hg⟩
    refine ⟨⟨_, rfl, ?_⟩, hg⟩
    unfold effV effA
    rw [if_pos h43]
    generalize ofE 0 e (bt s (p + 2)) + exS (bt s (p + 3)) = d at *
    generalize ofE 0 e (bt s (exJ s (p + 2))) + exS (bt s (exJ s (p + 2) + 1)) = v at *
    by_cases hd : 0 ≤ d ∧ d < 10
    · by_cases hv : 0 ≤ v ∧ v < 10
      · rw [if_pos ⟨hd, hv⟩]
        simp [efL, hd, hv]
        omega
      · rw [if_neg (fun h => hv h.2)]
        have hv' : (decide (0 ≤ v) && decide (v < 10)) = false := by simpa using hv
        simp [hd, hv']
    · rw [if_neg (fun h => hd h.1)]
      have hd' : (decide (0 ≤ d) && decide (d < 10)) = false := by simpa using hd
      simp [hd']
  · rw [if_neg h43] at hok
    by_cases h45 : bt s p = 45
    · rw [if_pos h45] at hok
      unfold empOk at hok
      simp only [Bool.and_eq_true] at hok
      obtain ⟨h1, h2'⟩ := hok
      have h2 : simB (bt s (p + 2)) = true := h2'
      have ea : acV s p = empV s (p + 1) := by simp [acV, h45]
      have hc : 0 ≤ bt s (p + 1) - 97 ∧ bt s (p + 1) - 97 ≤ 5 := by simp [clsB] at h1; omega
      have b1 := ofE_bd h2 he
      have b2 := exS_bd (bt s (p + 3))
      have := peffect_cells (digL e) (acL s p) 2 (bt s (p + 1) - 97) (ofE 0 e (bt s (p + 2)) + exS (bt s (p + 3))) 0 _ false w rfl rfl (by rw [acL, ea]; rfl) (by rw [acL, ea]; rfl) (.inr rfl) hc (by omega)
        (hid (fun W => by
          have := presult_any e (bt s (p + 2)) (bt s (p + 3)) W h2 he
          unfold acL
          rw [ea]
          exact this))
        (hid (fun h => by omega))
      refine this.mono ?_
      rintro r w' ⟨rfl, hg⟩
      refine ⟨⟨_, rfl, ?_⟩, hg⟩
      unfold effV effA
      rw [if_neg h43]
      generalize ofE 0 e (bt s (p + 2)) + exS (bt s (p + 3)) = d at *
      by_cases hd : 0 ≤ d ∧ d < 10
      · rw [if_pos hd]
        simp [efL, hd]
        omega
      · rw [if_neg hd]
        have hd' : (decide (0 ≤ d) && decide (d < 10)) = false := by simpa using hd
        simp [hd']
    · rw [if_neg h45] at hok
      simp at hok
      exact absurd hok h46

end Go.Proofs.Ythlhbjnkohinmaa
