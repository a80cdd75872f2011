/- The program's engine stands for the document's: pure reasoning, no memory. -/
import Derived.Test.YthlhbjnkohinmaaGreatPure
import Derived.Test.YthlhbjnkohinmaaGreatRefBegA
namespace Go.Proofs.YthlhbjnkohinmaaGreat
open Go.RowKit

/-! What the document's Commit does, where no sweep is needed. -/
def newestAt (wr : List Wr) (c : Nat) : Option Wr := (lastI (cellT c) wr).map fun k => wr.getD k (ByteArray.empty, 0)
def newestN (wr : List Wr) (n : Nat) : List Wr := (List.range n).filterMap (newestAt wr)
def newest (wr : List Wr) : List Wr := newestN wr 60
def rclash (E : Eng) (S : Ses) : Bool := (newest S.wr).any fun p => decide ((atF E.com p.1 E.com.length).2 > S.snap)
def Eng.commit (E : Eng) (l : List Wr) : Eng := { E with com := E.com ++ [l], kept := E.kept ++ l.map (fun p => ((E.com.length : Int) + 1, p)) }
def rcommitF (E : Eng) (n : Int) : (Int × Int) × Eng := match findS E.opn n with
  | none => ((0, 6), E)
  | some S => if rclash E S then ((0, 10), rendF E n) else if (newest S.wr).isEmpty then ((0, 0), rendF E n) else (((E.com.length : Int) + 1, 0), rendF (E.commit (newest S.wr)) n)

/-! Lists. -/
/-! Writes. -/
theorem lastI_snoc (c : ByteArray) (p : Wr) : ∀ l : List Wr, lastI c (l ++ [p]) = if p.1 = c then some l.length else lastI c l
  | [] => by simp [lastI]
  | q :: l => by
    simp only [List.cons_append, lastI, lastI_snoc c p l]
    by_cases h : p.1 = c
    · simp [h]
    · simp [h]
def toO (v : Int) : Option Int := if v < 0 then none else some v
def lastW (l : List Wr) (c : ByteArray) : PW := (lastI c l).map fun k => toO (l.getD k (ByteArray.empty, 0)).2
theorem lastW_snoc (l : List Wr) (p : Wr) (c : ByteArray) : lastW (l ++ [p]) c = if p.1 = c then some (toO p.2) else lastW l c := by
  unfold lastW
  rw [lastI_snoc]
  by_cases h : p.1 = c
  · simp [h, List.getD]
  · simp only [h, if_false]
    cases h1 : lastI c l with
    | none => rfl
    | some k =>
      have := lastI_lt h1
      simp [List.getD, List.getElem?_append_left this]

theorem cellT_data (k : Nat) : (cellT k).data = #[UInt8.ofNat (97 + (k : Int) / 10).toNat, UInt8.ofNat (48 + (k : Int) % 10).toNat] := rfl
theorem cellT_inj {a b : Nat} (ha : a < 60) (hb : b < 60) (h : cellT a = cellT b) : a = b := by
  have h1 : (cellT a).data = (cellT b).data := by rw [h]
  rw [cellT_data, cellT_data] at h1
  simp only [Array.mk.injEq, List.cons.injEq, and_true] at h1
  obtain ⟨h2, h3⟩ := h1
  have h4 := congrArg UInt8.toNat h2
  have h5 := congrArg UInt8.toNat h3
  simp only [UInt8.toNat_ofNat'] at h4 h5
  omega

theorem bt_ofNat {s : ByteArray} {i : Nat} (h : i < s.size) : UInt8.ofNat (bt s i).toNat = s[i] := by
  unfold bt
  rw [dif_pos h]
  simp
theorem cellN_bd {s : ByteArray} (h0 : clsB (bt s 0) = true) (h1 : digB (bt s 1) = true) : cellN s < 60 ∧ (97 : Int) + (cellN s : Int) / 10 = bt s 0 ∧ (48 : Int) + (cellN s : Int) % 10 = bt s 1 := by
  simp only [clsB, digB, decide_eq_true_eq] at h0 h1
  unfold cellN
  omega
theorem cellT_of {s : ByteArray} (hs : 2 ≤ s.size) (h0 : clsB (bt s 0) = true) (h1 : digB (bt s 1) = true) : s.extract 0 2 = cellT (cellN s) := by
  obtain ⟨_, h2, h3⟩ := cellN_bd h0 h1
  apply ByteArray.ext
  rw [cellT_data, h2, h3, bt_ofNat (by omega), bt_ofNat (by omega)]
  rw [ByteArray.data_extract]
  apply Array.ext
  · simp only [Array.size_extract]
    have : s.data.size = s.size := rfl
    simp; omega
  · intro i hi1 hi2
    simp only [Array.getElem_extract, Nat.zero_add]
    have hi3 : i < 2 := by simpa using hi2
    match i, hi3 with
    | 0, _ => rfl
    | 1, _ => rfl

theorem extract_all {s : ByteArray} (h : s.size = 2) : s.extract 0 2 = s := by
  apply ByteArray.ext
  rw [ByteArray.data_extract]
  apply Array.ext
  · have : s.data.size = s.size := rfl
    simp; omega
  · intro i hi1 hi2
    simp

theorem factP_eq (c : Nat) (v : Int) : factP c v = cellT c ++ strOfNums [48 + v] := by
  apply ByteArray.ext
  rw [ByteArray.data_append]
  rfl

/-! The program's engine stands for the document's. -/
structure SesSim (P : PSes) (S : Ses) : Prop where
  num : P.num = S.num
  pos : 1 ≤ S.num
  snap : P.snap = S.snap
  wr : ∀ c, c < 60 → P.wr c = lastW S.wr (cellT c)
  made : P.made = S.wr.length
  tm : ∀ c, c < 60 → ∀ k, lastI (cellT c) S.wr = some k → P.tm c = S.snap + ((k : Int) + 1)
  fired : S.fired = []
  mks : P.mks = none

/-- Which place of the program's has which open session. -/
structure Sim (X : PEng) (E : Eng) (L : List (Nat × Ses)) : Prop where
  opn : E.opn = L.map (·.2)
  places : (L.map (·.1)).Nodup
  lt : ∀ q ∈ L, q.1 < 8
  ses : ∀ q ∈ L, SesSim (X.ses q.1) q.2
  free : ∀ k, k < 8 → (∀ q ∈ L, q.1 ≠ k) → (X.ses k).num = 0
  nums : (L.map (·.2.num)).Nodup
  opened : X.opened = E.opened
  openedPos : 0 ≤ E.opened
  numLe : ∀ q ∈ L, q.2.num ≤ E.opened
  snap : ∀ q ∈ L, 0 ≤ q.2.snap ∧ q.2.snap ≤ E.com.length
  latest : X.latest = E.com.length
  hist : ∀ c, c < 60 → ∀ t : Nat, t ≤ E.com.length → histAt (X.hist c) t = toO (atF E.com (cellT c) t).1
  histS : ∀ c, c < 60 → ∀ t : Nat, t ≤ E.com.length → (histV (X.hist c) t).1 = (atF E.com (cellT c) t).2
  histLe : ∀ c, c < 60 → ∀ p ∈ X.hist c, p.1 ≤ E.com.length
  last : ∀ c, c < 60 → X.last c = (atF E.com (cellT c) E.com.length).2
  room : X.room = E.room
  kept : keptN X 60 = E.kept.length

theorem Sim.len {X : PEng} {E : Eng} {L : List (Nat × Ses)} (h : Sim X E L) : E.opn.length ≤ 8 := by
  have h1 := length_le_of_nodup (m := List.range 8) h.places (fun x hx => by
    obtain ⟨q, hq, rfl⟩ := List.mem_map.mp hx
    simpa using h.lt q hq)
  rw [h.opn]
  simpa using h1

theorem Sim.at {X : PEng} {E : Eng} {L : List (Nat × Ses)} (h : Sim X E L) {i : Nat} (hi : i < E.opn.length) : ∃ hl : i < L.length, E.opn[i] = L[i].2 := by
  have hl : i < L.length := by
    have := h.opn
    rw [this] at hi
    simpa using hi
  refine ⟨hl, ?_⟩
  have h1 : E.opn[i]? = (L.map (·.2))[i]? := by rw [h.opn]
  rw [List.getElem?_eq_getElem hi] at h1
  simpa [hl] using h1

theorem Sim.place {X : PEng} {E : Eng} {L : List (Nat × Ses)} (h : Sim X E L) {q : Nat × Ses} (hq : q ∈ L) : findP X q.2.num = some q.1 := by
  have hs := h.ses q hq
  have hp := hs.pos
  unfold findP
  rw [if_neg (by omega)]
  cases hf : numberedP X q.2.num with
  | none => exact absurd hs.num (numberedP_none hf q.1 (h.lt q hq))
  | some j =>
    obtain ⟨h1, h2⟩ := numberedP_some hf
    by_cases hj : ∀ q' ∈ L, q'.1 ≠ j
    · have := h.free j h1 hj
      omega
    · have hex : ∃ q' ∈ L, q'.1 = j := by
        apply Classical.byContradiction
        intro hc
        exact hj (fun q' hq' e => hc ⟨q', hq', e⟩)
      obtain ⟨q', hq', rfl⟩ := hex
      have h3 := (h.ses q' hq').num
      have : q' = q := inj_of_nodup h.nums hq' hq (by rw [← h3, h2])
      rw [this]
theorem Sim.noPlace {X : PEng} {E : Eng} {L : List (Nat × Ses)} (h : Sim X E L) {n : Int} (hn : ∀ q ∈ L, q.2.num ≠ n) : findP X n = none := by
  unfold findP
  split
  · rfl
  · cases hf : numberedP X n with
    | none => rfl
    | some j =>
      obtain ⟨h1, h2⟩ := numberedP_some hf
      by_cases hj : ∀ q' ∈ L, q'.1 ≠ j
      · have := h.free j h1 hj
        omega
      · have hex : ∃ q' ∈ L, q'.1 = j := by
          apply Classical.byContradiction
          intro hc
          exact hj (fun q' hq' e => hc ⟨q', hq', e⟩)
        obtain ⟨q', hq', rfl⟩ := hex
        exact absurd ((h.ses q' hq').num.symm.trans h2) (hn q' hq')

/-- Found by both, or by none. -/
theorem Sim.find {X : PEng} {E : Eng} {L : List (Nat × Ses)} (h : Sim X E L) (n : Int) :
    (findP X n = none ∧ idxS E.opn n = none ∧ findS E.opn n = none) ∨ ∃ (i : Nat) (hi : i < L.length) (hi2 : i < E.opn.length), E.opn[i] = L[i].2 ∧ L[i].2.num = n ∧ findP X n = some L[i].1 ∧ idxS E.opn n = some i ∧ findS E.opn n = some L[i].2 := by
  cases hi : idxS E.opn n with
  | none =>
    have h1 := idxS_none hi
    left
    refine ⟨h.noPlace ?_, rfl, findS_none h1⟩
    intro q hq e
    obtain ⟨j, hj, rfl⟩ := List.mem_iff_getElem.mp hq
    have hj2 : j < E.opn.length := by rw [h.opn]; simpa using hj
    obtain ⟨_, h2⟩ := h.at hj2
    exact h1 j hj2 (by rw [h2]; exact e)
  | some i =>
    obtain ⟨hk, h1, h2⟩ := idxS_some hi
    obtain ⟨hl, h3⟩ := h.at hk
    right
    refine ⟨i, hl, hk, h3, by rw [← h3]; exact h1, ?_, rfl, ?_⟩
    · have := h.place (List.getElem_mem hl)
      rw [← h3, h1] at this
      exact this
    · rw [findS_some hk h1 h2, h3]

theorem Sim.open {X : PEng} {E : Eng} {L : List (Nat × Ses)} (h : Sim X E L) : (popenF X).1 = (rbeginF E).1 ∧ ∃ L', Sim (popenF X).2 (rbeginF E).2 L' := by
  unfold popenF rbeginF
  have hlen : E.opn.length = L.length := by rw [h.opn]; simp
  cases hf : numberedP X 0 with
  | none =>
    have h8 : 8 ≤ E.opn.length := by
      have h1 := length_le_of_nodup (l := List.range 8) (m := L.map (·.1)) List.nodup_range (fun k hk => by
        apply Classical.byContradiction
        intro hc
        have hk8 : k < 8 := by simpa using hk
        exact numberedP_none hf k hk8 (h.free k hk8 (fun q hq e => hc (List.mem_map.mpr ⟨q, hq, e⟩))))
      rw [hlen]
      simpa using h1
    rw [if_pos h8]
    exact ⟨rfl, L, h⟩
  | some k =>
    obtain ⟨hk, h0⟩ := numberedP_some hf
    have hkL : ∀ q ∈ L, q.1 ≠ k := by
      rintro q hq rfl
      have h1 := (h.ses q hq).num
      have h2 := (h.ses q hq).pos
      omega
    have h8 : ¬ 8 ≤ E.opn.length := by
      have h1 := length_le_of_nodup (l := k :: L.map (·.1)) (m := List.range 8) (by
        rw [List.nodup_cons]
        refine ⟨?_, h.places⟩
        intro hm
        obtain ⟨q, hq, e⟩ := List.mem_map.mp hm
        exact hkL q hq e) (fun x hx => by
        rcases List.mem_cons.mp hx with rfl | hx
        · simpa using hk
        · obtain ⟨q, hq, rfl⟩ := List.mem_map.mp hx
          simpa using h.lt q hq)
      simp at h1
      omega
    rw [if_neg h8]
    refine ⟨by simp [h.opened], L ++ [(k, ⟨E.opened + 1, E.com.length, [], []⟩)], ?_⟩
    refine { opn := by simp [h.opn], places := ?_, lt := ?_, ses := ?_, free := ?_, nums := ?_, opened := by simp [h.opened], openedPos := by have := h.openedPos; show 0 ≤ E.opened + 1; omega, numLe := ?_, snap := ?_, latest := h.latest, hist := h.hist, histS := h.histS, histLe := h.histLe, last := h.last, room := h.room, kept := (keptN_same rfl 60).trans h.kept }
    · rw [List.map_append, List.nodup_append]
      refine ⟨h.places, by simp, ?_⟩
      intro a ha b hb
      obtain ⟨q, hq, rfl⟩ := List.mem_map.mp ha
      simp at hb
      rw [hb]
      exact hkL q hq
    · intro q hq
      rcases List.mem_append.mp hq with hq | hq
      · exact h.lt q hq
      · simp at hq; subst hq; exact hk
    · intro q hq
      rcases List.mem_append.mp hq with hq | hq
      · show SesSim (upd X.ses k _ q.1) q.2
        rw [upd_ne _ _ _ (hkL q hq)]
        exact h.ses q hq
      · simp at hq
        subst hq
        show SesSim (upd X.ses k _ k) _
        rw [upd_same]
        exact ⟨by simp [h.opened, PSes.new], by have := h.openedPos; simp; omega, h.latest, fun c _ => rfl, rfl, fun c _ k hk => by simp [lastI] at hk, rfl, rfl⟩
    · intro j hj hjL
      show (upd X.ses k _ j).num = 0
      have h1 : j ≠ k := fun e => hjL _ (List.mem_append_right _ (List.mem_singleton.mpr rfl)) e.symm
      rw [upd_ne _ _ _ h1]
      exact h.free j hj (fun q hq => hjL q (List.mem_append_left _ hq))
    · rw [List.map_append, List.nodup_append]
      refine ⟨h.nums, by simp, ?_⟩
      intro a ha b hb
      obtain ⟨q, hq, rfl⟩ := List.mem_map.mp ha
      simp at hb
      have := h.numLe q hq
      omega
    · intro q hq
      show _ ≤ E.opened + 1
      rcases List.mem_append.mp hq with hq | hq
      · have := h.numLe q hq; omega
      · simp at hq; subst hq; simp
    · intro q hq
      show 0 ≤ q.2.snap ∧ q.2.snap ≤ (E.com.length : Int)
      rcases List.mem_append.mp hq with hq | hq
      · exact h.snap q hq
      · simp at hq; subst hq; simp

theorem Sim.write {X : PEng} {E : Eng} {L : List (Nat × Ses)} (h : Sim X E L) {i : Nat} (hi : i < L.length) (c : Nat) (hc : c < 60) (p : Wr) (v : Option Int) (hp : p.1 = cellT c) (hv : toO p.2 = v) :
    ∃ L', Sim (X.setSes L[i].1 ((X.ses L[i].1).put c v)) (addW E i p) L' := by
  refine ⟨L.modify i (fun q => (q.1, q.2.add p)), ?_⟩
  have hm1 : (L.modify i (fun q => (q.1, q.2.add p))).map (·.1) = L.map (·.1) := by
    apply List.ext_getElem (by simp)
    intro j h1 h2
    simp [List.getElem_modify]
    split <;> rfl
  have hm2 : (L.modify i (fun q => (q.1, q.2.add p))).map (·.2.num) = L.map (·.2.num) := by
    apply List.ext_getElem (by simp)
    intro j h1 h2
    simp [List.getElem_modify]
    split <;> rfl
  have hmem : ∀ q ∈ L.modify i (fun q => (q.1, q.2.add p)), (q ∈ L ∧ q.1 ≠ L[i].1) ∨ q = (L[i].1, L[i].2.add p) := by
    intro q hq
    obtain ⟨j, hj, rfl⟩ := List.mem_iff_getElem.mp hq
    have hj2 : j < L.length := by simpa using hj
    rw [List.getElem_modify]
    by_cases e : i = j
    · subst e; right; simp
    · left
      rw [if_neg e]
      refine ⟨List.getElem_mem hj2, ?_⟩
      intro he
      have hn := h.places
      rw [List.nodup_iff_pairwise_ne, List.pairwise_iff_getElem] at hn
      rcases Nat.lt_or_gt_of_ne e with hlt | hlt
      · exact hn i j (by simpa using hi) (by simpa using hj2) hlt (by simpa using he.symm)
      · exact hn j i (by simpa using hj2) (by simpa using hi) hlt (by simpa using he)
  refine { opn := ?_, places := by rw [hm1]; exact h.places, lt := ?_, ses := ?_, free := ?_, nums := by rw [hm2]; exact h.nums, opened := h.opened, openedPos := h.openedPos, numLe := ?_, snap := ?_, latest := h.latest, hist := h.hist, histS := h.histS, histLe := h.histLe, last := h.last, room := h.room, kept := (keptN_same rfl 60).trans h.kept }
  · show E.opn.modify i _ = _
    apply List.ext_getElem
    · simp [h.opn]
    intro j h1 h2
    have hj : j < E.opn.length := by simpa using h1
    obtain ⟨hl, hat⟩ := h.at hj
    simp only [List.getElem_modify, List.getElem_map, hat]
    split <;> rfl
  · intro q hq
    rcases hmem q hq with ⟨h1, _⟩ | rfl
    · exact h.lt q h1
    · exact h.lt L[i] (List.getElem_mem hi)
  · intro q hq
    rcases hmem q hq with ⟨h1, h2⟩ | rfl
    · show SesSim (upd X.ses _ _ q.1) q.2
      rw [upd_ne _ _ _ h2]
      exact h.ses q h1
    · show SesSim (upd X.ses _ _ L[i].1) (L[i].2.add p)
      rw [upd_same]
      have hs := h.ses _ (List.getElem_mem hi)
      refine ⟨hs.num, hs.pos, hs.snap, ?_, ?_, ?_, hs.fired, hs.mks⟩
      rotate_left
      · show (X.ses L[i].1).made + 1 = ((L[i].2.wr ++ [p]).length : Nat)
        rw [hs.made]
        simp
      · intro c' hc' k hk
        show upd (X.ses L[i].1).tm c ((X.ses L[i].1).snap + ((X.ses L[i].1).made + 1)) c' = L[i].2.snap + ((k : Int) + 1)
        have hk' : lastI (cellT c') (L[i].2.wr ++ [p]) = some k := hk
        rw [lastI_snoc] at hk'
        by_cases e : c' = c
        · subst e
          rw [if_pos hp] at hk'
          cases hk'
          rw [upd_same, hs.made, hs.snap]
        · rw [if_neg (by rw [hp]; exact fun he => e (cellT_inj hc' hc he.symm))] at hk'
          rw [upd_ne _ _ _ e]
          exact hs.tm c' hc' k hk'
      intro c' hc'
      show upd (X.ses L[i].1).wr c (some v) c' = lastW (L[i].2.wr ++ [p]) (cellT c')
      rw [lastW_snoc]
      by_cases e : c' = c
      · subst e
        rw [upd_same, if_pos hp, hv]
      · rw [upd_ne _ _ _ e, if_neg (by rw [hp]; exact fun he => e (cellT_inj hc' hc he.symm))]
        exact hs.wr c' hc'
  · intro j hj hjL
    show (upd X.ses _ _ j).num = 0
    by_cases e : j = L[i].1
    · subst e
      have : (L[i].1, L[i].2.add p) ∈ L.modify i (fun q => (q.1, q.2.add p)) := by
        apply List.mem_iff_getElem.mpr
        exact ⟨i, by simpa using hi, by simp⟩
      exact absurd rfl (hjL (L[i].1, L[i].2.add p) this)
    · rw [upd_ne _ _ _ e]
      apply h.free j hj
      intro q hq he
      have : q.1 ∈ (L.modify i (fun q => (q.1, q.2.add p))).map (·.1) := by rw [hm1]; exact List.mem_map.mpr ⟨q, hq, rfl⟩
      obtain ⟨q', hq', e'⟩ := List.mem_map.mp this
      exact hjL q' hq' (e'.trans he)
  · intro q hq
    rcases hmem q hq with ⟨h1, _⟩ | rfl
    · exact h.numLe q h1
    · exact h.numLe L[i] (List.getElem_mem hi)
  · intro q hq
    rcases hmem q hq with ⟨h1, _⟩ | rfl
    · exact h.snap q h1
    · exact h.snap L[i] (List.getElem_mem hi)

theorem Sim.put {X : PEng} {E : Eng} {L : List (Nat × Ses)} (h : Sim X E L) (n : Int) (s : ByteArray) : (pputF X n s).1 = (rputF E n s).1 ∧ ∃ L', Sim (pputF X n s).2 (rputF E n s).2 L' := by
  unfold pputF rputF
  rcases h.find n with ⟨h1, h2, _⟩ | ⟨i, hi, hi2, _, _, h1, h2, _⟩
  · rw [h1, h2]; exact ⟨rfl, L, h⟩
  · rw [h1, h2]
    cases hf : factB s with
    | false => exact ⟨rfl, L, h⟩
    | true =>
      simp only [factB, Bool.and_eq_true, beq_iff_eq] at hf
      obtain ⟨⟨⟨f1, f2⟩, f3⟩, f4⟩ := hf
      refine ⟨rfl, ?_⟩
      refine h.write hi (cellN s) (cellN_bd f2 f3).1 _ _ (cellT_of (by omega) f2 f3) ?_
      simp only [digB, decide_eq_true_eq] at f4
      show toO (bt s 2 - 48) = _
      unfold toO
      rw [if_neg (by omega)]
theorem Sim.clear {X : PEng} {E : Eng} {L : List (Nat × Ses)} (h : Sim X E L) (n : Int) (s : ByteArray) : (pclearF X n s).1 = (rclearF E n s).1 ∧ ∃ L', Sim (pclearF X n s).2 (rclearF E n s).2 L' := by
  unfold pclearF rclearF
  rcases h.find n with ⟨h1, h2, _⟩ | ⟨i, hi, hi2, _, _, h1, h2, _⟩
  · rw [h1, h2]; exact ⟨rfl, L, h⟩
  · rw [h1, h2]
    cases hf : cellB s with
    | false => exact ⟨rfl, L, h⟩
    | true =>
      simp only [cellB, Bool.and_eq_true, beq_iff_eq] at hf
      obtain ⟨⟨f1, f2⟩, f3⟩ := hf
      refine ⟨rfl, ?_⟩
      have := cellT_of (by omega) f2 f3
      rw [extract_all f1] at this
      exact h.write hi (cellN s) (cellN_bd f2 f3).1 (s, -1) _ this rfl

/-- The value that is seen. -/
theorem Sim.seen {X : PEng} {E : Eng} {L : List (Nat × Ses)} (h : Sim X E L) {q : Nat × Ses} (hq : q ∈ L) {c : Nat} (hc : c < 60) : seenP X q.1 c = toO (seesF E.com q.2 (cellT c)).1 := by
  have hs := h.ses q hq
  have hsn := h.snap q hq
  unfold seenP seesF
  rw [hs.wr c hc]
  unfold lastW
  cases h1 : lastI (cellT c) q.2.wr with
  | some k => rfl
  | none =>
    simp only [Option.map_none]
    have := h.hist c hc q.2.snap.toNat (by omega)
    rw [hs.snap]
    rw [← this]
    congr 1
    omega
theorem Sim.view {X : PEng} {E : Eng} {L : List (Nat × Ses)} (h : Sim X E L) (n : Int) : pviewF X n = match findS E.opn n with | some S => (joined (factsN E.com S 60), 0) | none => (ByteArray.empty, 6) := by
  unfold pviewF
  rcases h.find n with ⟨h1, _, h3⟩ | ⟨i, hi, hi2, _, _, h1, _, h3⟩
  · rw [h1, h3]
  · rw [h1, h3]
    show (viewP X L[i].1, (0 : Int)) = (joined (factsN E.com L[i].2 60), 0)
    congr 1
    unfold viewP factsN
    congr 1
    apply filterMap_same
    intro c hc
    rw [h.seen (List.getElem_mem hi) (by simpa using hc)]
    unfold toO factAt
    by_cases hv : (seesF E.com L[i].2 (cellT c)).1 < 0
    · rw [if_pos hv, if_neg (by omega)]; rfl
    · rw [if_neg hv, if_pos (by omega)]
      simp [factP_eq]

theorem Sim.drop {X : PEng} {E : Eng} {L : List (Nat × Ses)} (h : Sim X E L) {i : Nat} (hi : i < L.length) {n : Int} (hn : L[i].2.num = n) : Sim (X.setSes L[i].1 .zero) (rendF E n) (L.filter fun q => q.2.num != n) := by
  have hin : ∀ q ∈ L.filter (fun q => q.2.num != n), q ∈ L ∧ q.1 ≠ L[i].1 := by
    intro q hq
    obtain ⟨h1, h2⟩ := List.mem_filter.mp hq
    refine ⟨h1, fun e => ?_⟩
    have := inj_of_nodup h.places h1 (List.getElem_mem hi) e
    rw [this] at h2
    simp [hn] at h2
  refine { opn := ?_, places := h.places.sublist (List.filter_sublist.map _), lt := fun q hq => h.lt q (hin q hq).1, ses := ?_, free := ?_, nums := h.nums.sublist (List.filter_sublist.map _), opened := h.opened, openedPos := h.openedPos, numLe := fun q hq => h.numLe q (hin q hq).1, snap := fun q hq => h.snap q (hin q hq).1, latest := h.latest, hist := h.hist, histS := h.histS, histLe := h.histLe, last := h.last, room := h.room, kept := (keptN_same rfl 60).trans h.kept }
  · show E.opn.filter _ = _
    rw [h.opn, List.filter_map]
    rfl
  · intro q hq
    obtain ⟨h1, h2⟩ := hin q hq
    show SesSim (upd X.ses _ _ q.1) q.2
    rw [upd_ne _ _ _ h2]
    exact h.ses q h1
  · intro j hj hjL
    show (upd X.ses _ _ j).num = 0
    by_cases e : j = L[i].1
    · subst e; rw [upd_same]; rfl
    · rw [upd_ne _ _ _ e]
      apply h.free j hj
      rintro q hq rfl
      refine hjL q (List.mem_filter.mpr ⟨hq, ?_⟩) rfl
      simp only [bne_iff_ne, ne_eq]
      intro hqn
      exact e (congrArg (·.1) (inj_of_nodup h.nums hq (List.getElem_mem hi) (hqn.trans hn.symm)))
theorem Sim.abort {X : PEng} {E : Eng} {L : List (Nat × Ses)} (h : Sim X E L) (n : Int) : (pabortF X n).1 = (rabortF E n).1 ∧ ∃ L', Sim (pabortF X n).2 (rabortF E n).2 L' := by
  unfold pabortF rabortF
  rcases h.find n with ⟨h1, h2, _⟩ | ⟨i, hi, hi2, _, hn, h1, h2, _⟩
  · rw [h1, h2]; exact ⟨rfl, L, h⟩
  · rw [h1, h2]; exact ⟨rfl, _, h.drop hi hn⟩

/-! Commits. -/
theorem getD_snoc_lt {α : Type} (l : List α) (x d : α) {t : Nat} (h : t < l.length) : (l ++ [x]).getD t d = l.getD t d := by
  simp [List.getD, List.getElem?_append_left h]
theorem atF_snoc (com : List (List Wr)) (l : List Wr) (c : ByteArray) : ∀ t, t ≤ com.length → atF (com ++ [l]) c t = atF com c t
  | 0, _ => rfl
  | t + 1, h => by
    unfold atF
    rw [getD_snoc_lt _ _ _ (by omega), atF_snoc com l c t (by omega)]
theorem atF_new (com : List (List Wr)) (l : List Wr) (c : ByteArray) : atF (com ++ [l]) c (com.length + 1) = match lastI c l with | some k => ((l.getD k (ByteArray.empty, 0)).2, (com.length : Int) + 1) | none => atF com c com.length := by
  rw [atF]
  have : (com ++ [l]).getD com.length [] = l := by simp [List.getD]
  rw [this, atF_snoc com l c _ (Nat.le_refl _)]
  cases lastI c l <;> rfl

theorem newestN_succ (wr : List Wr) (n : Nat) : newestN wr (n + 1) = newestN wr n ++ (newestAt wr n).toList := by
  unfold newestN
  rw [List.range_succ, List.filterMap_append]
  cases h : newestAt wr n <;> simp [h]
theorem lastI_at {c : ByteArray} : ∀ {l : List Wr} {k : Nat}, lastI c l = some k → (l.getD k (ByteArray.empty, 0)).1 = c
  | p :: l, k, h => by
    unfold lastI at h
    cases h1 : lastI c l with
    | some j =>
      rw [h1] at h
      simp at h
      subst h
      have := lastI_at h1
      simpa [List.getD] using this
    | none =>
      rw [h1] at h
      simp at h
      obtain ⟨h2, rfl⟩ := h
      simpa [List.getD] using h2
theorem newestAt_cell {wr : List Wr} {n : Nat} {p : Wr} (h : newestAt wr n = some p) : p.1 = cellT n := by
  unfold newestAt at h
  cases h1 : lastI (cellT n) wr with
  | none => rw [h1] at h; cases h
  | some k =>
    rw [h1] at h
    simp only [Option.map_some, Option.some.injEq] at h
    rw [← h]
    exact lastI_at h1
/-- The commit's writes have each cell once: the last write of the session. -/
theorem lastW_newestN {wr : List Wr} {c : Nat} (hc : c < 60) : ∀ n, n ≤ 60 → lastW (newestN wr n) (cellT c) = if c < n then lastW wr (cellT c) else none
  | 0, _ => by simp [newestN, lastW, lastI]
  | n + 1, hn => by
    rw [newestN_succ]
    have ih := lastW_newestN (wr := wr) hc n (by omega)
    cases h : newestAt wr n with
    | none =>
      simp only [Option.toList_none, List.append_nil]
      rw [ih]
      by_cases e : c < n
      · rw [if_pos e, if_pos (by omega)]
      · rw [if_neg e]
        by_cases e2 : c < n + 1
        · have : c = n := by omega
          subst this
          rw [if_pos e2]
          unfold newestAt at h
          unfold lastW
          simp only [Option.map_eq_none_iff] at h
          rw [h]; rfl
        · rw [if_neg e2]
    | some p =>
      have hp := newestAt_cell h
      simp only [Option.toList_some]
      rw [lastW_snoc, ih, hp]
      by_cases e : c = n
      · subst e
        rw [if_pos rfl, if_pos (by omega)]
        unfold newestAt at h
        unfold lastW
        cases h1 : lastI (cellT c) wr with
        | none => rw [h1] at h; cases h
        | some k =>
          rw [h1] at h
          simp only [Option.map_some, Option.some.injEq] at h
          simp only [Option.map_some]
          rw [h]
      · rw [if_neg (fun he => e (cellT_inj (by omega) hc he).symm)]
        by_cases e2 : c < n
        · rw [if_pos e2, if_pos (by omega)]
        · rw [if_neg e2, if_neg (by omega)]
theorem lastW_newest {wr : List Wr} {c : Nat} (hc : c < 60) : lastW (newest wr) (cellT c) = lastW wr (cellT c) := by
  have := lastW_newestN (wr := wr) hc 60 (Nat.le_refl _)
  rw [if_pos hc] at this
  exact this
theorem lastW_isSome {l : List Wr} {c : ByteArray} : (lastW l c).isSome = (lastI c l).isSome := by simp [lastW]

theorem hasW_eq {P : PSes} {S : Ses} (h : SesSim P S) : hasW P = !(newest S.wr).isEmpty := by
  rw [Bool.eq_iff_iff]
  simp only [hasW, List.any_eq_true, List.mem_range, Bool.not_eq_true', List.isEmpty_eq_false_iff, ne_eq]
  constructor
  · rintro ⟨c, hc, hs⟩ he
    rw [h.wr c hc, ← lastW_newest hc, he] at hs
    simp [lastW, lastI] at hs
  · intro hne
    apply Classical.byContradiction
    intro hc
    apply hne
    unfold newest newestN
    rw [List.filterMap_eq_nil_iff]
    intro c hcm
    have hc60 : c < 60 := by simpa using hcm
    unfold newestAt
    cases h1 : lastI (cellT c) S.wr with
    | none => rfl
    | some k =>
      exfalso
      apply hc
      exact ⟨c, hc60, by rw [h.wr c hc60, lastW_isSome, h1]; rfl⟩
theorem Sim.clash {X : PEng} {E : Eng} {L : List (Nat × Ses)} (h : Sim X E L) {q : Nat × Ses} (hq : q ∈ L) : clash X (X.ses q.1) = rclash E q.2 := by
  have hs := h.ses q hq
  rw [Bool.eq_iff_iff]
  simp only [Go.Proofs.YthlhbjnkohinmaaGreat.clash, rclash, List.any_eq_true, List.mem_range, Bool.and_eq_true, decide_eq_true_eq]
  constructor
  · rintro ⟨c, hc, hw, hl⟩
    rw [hs.wr c hc, lastW_isSome] at hw
    cases h1 : lastI (cellT c) q.2.wr with
    | none => rw [h1] at hw; cases hw
    | some k =>
      refine ⟨q.2.wr.getD k (ByteArray.empty, 0), ?_, ?_⟩
      · unfold newest newestN
        rw [List.mem_filterMap]
        exact ⟨c, by simpa using hc, by unfold newestAt; rw [h1]; rfl⟩
      · rw [lastI_at h1, ← h.last c hc, ← hs.snap]
        exact hl
  · rintro ⟨p, hp, hl⟩
    unfold newest newestN at hp
    rw [List.mem_filterMap] at hp
    obtain ⟨c, hc, hn⟩ := hp
    have hc60 : c < 60 := by simpa using hc
    refine ⟨c, hc60, ?_, ?_⟩
    · rw [hs.wr c hc60, lastW_isSome]
      unfold newestAt at hn
      cases h1 : lastI (cellT c) q.2.wr with
      | none => rw [h1] at hn; cases hn
      | some k => rfl
    · rw [newestAt_cell hn, ← h.last c hc60, ← hs.snap] at hl
      exact hl

theorem kept_commit (X : PEng) (P : PSes) : ∀ n, keptN (X.commit P) n = keptN X n + writN P n
  | 0 => rfl
  | n + 1 => by
    unfold keptN writN
    rw [kept_commit X P n]
    have : ((X.commit P).hist n).length = (X.hist n).length + (if (P.wr n).isSome then 1 else 0) := by
      show (match P.wr n with | some v => X.hist n ++ [(X.latest + 1, v)] | none => X.hist n).length = _
      cases P.wr n <;> simp
    omega
theorem writN_newest {P : PSes} {S : Ses} (hs : SesSim P S) : ∀ n, n ≤ 60 → writN P n = (newestN S.wr n).length
  | 0, _ => rfl
  | n + 1, hn => by
    unfold writN newestN
    rw [writN_newest hs n (by omega), List.range_succ, List.filterMap_append, List.length_append, hs.wr n (by omega), lastW_isSome]
    have e : (List.filterMap (newestAt S.wr) [n]).length = if (lastI (cellT n) S.wr).isSome then 1 else 0 := by
      simp only [List.filterMap_cons, List.filterMap_nil]
      unfold newestAt
      cases lastI (cellT n) S.wr <;> rfl
    rw [e]
    rfl
theorem Sim.commits {X : PEng} {E : Eng} {L : List (Nat × Ses)} (h : Sim X E L) {P : PSes} {S : Ses} (hs : SesSim P S) : Sim (X.commit P) (E.commit (newest S.wr)) L := by
  have hcl : (E.commit (newest S.wr)).com.length = E.com.length + 1 := by simp [Eng.commit]
  refine { opn := h.opn, places := h.places, lt := h.lt, ses := h.ses, free := h.free, nums := h.nums, opened := h.opened, openedPos := h.openedPos, numLe := h.numLe, snap := ?_, latest := ?_, hist := ?_, histS := ?_, histLe := ?_, last := ?_, room := h.room, kept := by rw [kept_commit, writN_newest hs 60 (Nat.le_refl _), h.kept]; simp [Eng.commit, newest] }
  · intro q hq
    have := h.snap q hq
    rw [hcl]
    omega
  · show X.latest + 1 = _
    rw [hcl, h.latest]
    omega
  · intro c hc t ht
    rw [hcl] at ht
    show histAt (match P.wr c with | some v => X.hist c ++ [(X.latest + 1, v)] | none => X.hist c) t = toO (atF (E.com ++ [newest S.wr]) (cellT c) t).1
    have hw := hs.wr c hc
    rw [← lastW_newest hc] at hw
    by_cases e : t = E.com.length + 1
    · subst e
      rw [atF_new, hw]
      unfold lastW
      cases h1 : lastI (cellT c) (newest S.wr) with
      | some k =>
        simp only [Option.map_some]
        rw [histAt_snoc, h.latest, if_pos (by omega)]
      | none =>
        simp only [Option.map_none]
        rw [← h.hist c hc E.com.length (Nat.le_refl _)]
        unfold histAt
        have hle := h.histLe c hc
        have hfind : ∀ l : List (Int × Option Int), (∀ p ∈ l, p.1 ≤ E.com.length) → l.find? (fun p => decide (p.1 ≤ ((E.com.length + 1 : Nat) : Int))) = l.find? (fun p => decide (p.1 ≤ (E.com.length : Int))) := by
          intro l hl
          cases l with
          | nil => rfl
          | cons a r =>
            have := hl a (by simp)
            rw [List.find?_cons, List.find?_cons]
            rw [decide_eq_true (by omega), decide_eq_true (by omega)]
        rw [hfind _ (fun p hp => hle p (by simpa using hp))]
    · rw [atF_snoc _ _ _ _ (by omega), ← h.hist c hc t (by omega)]
      cases P.wr c with
      | none => rfl
      | some v =>
        rw [histAt_snoc, if_neg]
        rw [h.latest]
        omega
  · intro c hc t ht
    rw [hcl] at ht
    show (histV (match P.wr c with | some v => X.hist c ++ [(X.latest + 1, v)] | none => X.hist c) t).1 = (atF (E.com ++ [newest S.wr]) (cellT c) t).2
    have hw := hs.wr c hc
    rw [← lastW_newest hc] at hw
    by_cases e : t = E.com.length + 1
    · subst e
      rw [atF_new, hw]
      unfold lastW
      cases h1 : lastI (cellT c) (newest S.wr) with
      | some k =>
        simp only [Option.map_some]
        rw [histV_snoc, h.latest, if_pos (by omega)]
      | none =>
        simp only [Option.map_none]
        rw [← h.histS c hc E.com.length (Nat.le_refl _)]
        unfold histV
        have hle := h.histLe c hc
        have hfind : ∀ l : List (Int × Option Int), (∀ p ∈ l, p.1 ≤ E.com.length) → l.find? (fun p => decide (p.1 ≤ ((E.com.length + 1 : Nat) : Int))) = l.find? (fun p => decide (p.1 ≤ (E.com.length : Int))) := by
          intro l hl
          cases l with
          | nil => rfl
          | cons a r =>
            have := hl a (by simp)
            rw [List.find?_cons, List.find?_cons]
            rw [decide_eq_true (by omega), decide_eq_true (by omega)]
        rw [hfind _ (fun p hp => hle p (by simpa using hp))]
    · rw [atF_snoc _ _ _ _ (by omega), ← h.histS c hc t (by omega)]
      cases P.wr c with
      | none => rfl
      | some v =>
        rw [histV_snoc, if_neg]
        rw [h.latest]
        omega
  · intro c hc p hp
    rw [hcl]
    have hp' : p ∈ (match P.wr c with | some v => X.hist c ++ [(X.latest + 1, v)] | none => X.hist c) := hp
    cases hw : P.wr c with
    | none =>
      rw [hw] at hp'
      have := h.histLe c hc p hp'
      omega
    | some v =>
      rw [hw] at hp'
      rcases List.mem_append.mp hp' with hp' | hp'
      · have := h.histLe c hc p hp'; omega
      · simp at hp'
        rw [hp', h.latest]
        show (E.com.length : Int) + 1 ≤ _
        omega
  · intro c hc
    rw [hcl]
    show (if (P.wr c).isSome = true then X.latest + 1 else X.last c) = (atF (E.com ++ [newest S.wr]) (cellT c) (E.com.length + 1)).2
    rw [atF_new, hs.wr c hc, ← lastW_newest hc, lastW_isSome]
    cases h1 : lastI (cellT c) (newest S.wr) with
    | some k => simp [h.latest]
    | none => simp [h.last c hc]
theorem Sim.commit {X : PEng} {E : Eng} {L : List (Nat × Ses)} (h : Sim X E L) (n : Int) : (pcommitF X n).1 = (rcommitF E n).1 ∧ ∃ L', Sim (pcommitF X n).2 (rcommitF E n).2 L' := by
  unfold pcommitF rcommitF
  rcases h.find n with ⟨h1, _, h3⟩ | ⟨i, hi, hi2, _, hn, h1, _, h3⟩
  · rw [h1, h3]; exact ⟨rfl, L, h⟩
  · rw [h1, h3]
    have hm := List.getElem_mem hi
    simp only
    rw [hasW_eq (h.ses _ hm), h.clash hm]
    cases he : (newest L[i].2.wr).isEmpty with
    | true =>
      have hr : rclash E L[i].2 = false := by
        unfold rclash
        rw [List.isEmpty_iff.mp he]
        rfl
      rw [hr]
      exact ⟨rfl, _, h.drop hi hn⟩
    | false =>
      cases hr : rclash E L[i].2 with
      | true => exact ⟨rfl, _, h.drop hi hn⟩
      | false =>
        refine ⟨by simp [h.latest], L.filter (fun q => q.2.num != n), ?_⟩
        exact (h.commits (h.ses _ hm)).drop hi hn

end Go.Proofs.YthlhbjnkohinmaaGreat
