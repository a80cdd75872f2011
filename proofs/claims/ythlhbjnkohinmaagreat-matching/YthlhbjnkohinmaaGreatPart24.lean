import Derived.Test.YthlhbjnkohinmaaGreatPart20
import Derived.Test.YthlhbjnkohinmaaGreatPart14
import Derived.Test.YthlhbjnkohinmaaGreatPart16
import Derived.Test.YthlhbjnkohinmaaGreatPart02
/- Plain: the instantiations of a rule stand in the order of their facts' texts. -/
namespace Go.Proofs.YthlhbjnkohinmaaGreat
open Go.RowKit

theorem bl_irr : ∀ u : List UInt8, Op.bytesLess u u = false
  | [] => rfl
  | a :: u => by simp [Op.bytesLess, bl_irr u]
theorem bl_asym : ∀ u v : List UInt8, Op.bytesLess u v = true → Op.bytesLess v u = false
  | [], [], h => by cases h
  | [], _ :: _, _ => rfl
  | _ :: _, [], h => by cases h
  | a :: u, b :: v, h => by
    simp only [Op.bytesLess, Bool.or_eq_true, decide_eq_true_eq, Bool.and_eq_true, beq_iff_eq] at h
    simp only [Op.bytesLess, Bool.or_eq_false_iff, decide_eq_false_iff_not, Bool.and_eq_false_iff, beq_eq_false_iff_ne, ne_eq]
    rcases h with h | ⟨h1, h2⟩
    · have h' := UInt8.lt_iff_toNat_lt.mp h
      refine ⟨fun h3 => ?_, .inl (fun e => ?_)⟩
      · have := UInt8.lt_iff_toNat_lt.mp h3
        omega
      · rw [e] at h'
        omega
    · subst h1
      refine ⟨fun h3 => ?_, .inr (bl_asym u v h2)⟩
      have := UInt8.lt_iff_toNat_lt.mp h3
      omega
theorem bl_pre : ∀ (p u v : List UInt8), Op.bytesLess (p ++ u) (p ++ v) = Op.bytesLess u v
  | [], _, _ => rfl
  | a :: p, u, v => by simp [Op.bytesLess, bl_pre p u v]
theorem bl_app : ∀ (u v x y : List UInt8), u.length = v.length → Op.bytesLess u v = true → Op.bytesLess (u ++ x) (v ++ y) = true
  | [], [], _, _, _, h => by cases h
  | [], _ :: _, _, _, hl, _ => by simp at hl
  | _ :: _, [], _, _, hl, _ => by simp at hl
  | a :: u, b :: v, x, y, hl, h => by
    simp only [Op.bytesLess, Bool.or_eq_true, decide_eq_true_eq, Bool.and_eq_true, beq_iff_eq] at h
    simp only [List.cons_append, Op.bytesLess, Bool.or_eq_true, decide_eq_true_eq, Bool.and_eq_true, beq_iff_eq]
    rcases h with h | ⟨h1, h2⟩
    · exact .inl h
    · exact .inr ⟨h1, bl_app u v x y (by simpa using hl) h2⟩
/-- The bytes of facts. -/
def fcB (l : List PFact) : List UInt8 := l.flatMap fun q => (factP q.1 q.2.1).data.toList
theorem slt_facts (a b : List PFact) : slt (factsT a) (factsT b) = Op.bytesLess (fcB a) (fcB b) := by
  unfold slt
  rw [ByteArray.toList_eq, ByteArray.toList_eq, factsT_data, factsT_data]
  rfl
theorem fcB_len (l : List PFact) : (fcB l).length = 3 * l.length := by
  induction l with
  | nil => rfl
  | cons q l ih =>
    unfold fcB at ih ⊢
    rw [List.flatMap_cons, List.length_append, ih, List.length_cons]
    have : (factP q.1 q.2.1).data.toList.length = 3 := rfl
    omega
theorem fcB_snoc (l : List PFact) (q : PFact) : fcB (l ++ [q]) = fcB l ++ (factP q.1 q.2.1).data.toList := by simp [fcB]
theorem factP_lt {c d : Nat} {v u : Int} (h : c < d) (hd : d < 60) : Op.bytesLess (factP c v).data.toList (factP d u).data.toList = true := by
  have e : ∀ (k : Nat) (x : Int), (factP k x).data.toList = [UInt8.ofNat (97 + (k : Int) / 10).toNat, UInt8.ofNat (48 + (k : Int) % 10).toNat, UInt8.ofNat (48 + x).toNat] := fun k x => rfl
  rw [e, e]
  have t : ∀ n : Nat, n < 256 → (UInt8.ofNat n).toNat = n := fun n hn => by rw [UInt8.toNat_ofNat']; omega
  by_cases h1 : c / 10 < d / 10
  · have : UInt8.ofNat (97 + (c : Int) / 10).toNat < UInt8.ofNat (97 + (d : Int) / 10).toNat := by
      rw [UInt8.lt_iff_toNat_lt, t _ (by omega), t _ (by omega)]
      omega
    simp [Op.bytesLess, this]
  · have h2 : c / 10 = d / 10 := by omega
    have e1 : (97 + (c : Int) / 10).toNat = (97 + (d : Int) / 10).toNat := by omega
    have : UInt8.ofNat (48 + (c : Int) % 10).toNat < UInt8.ofNat (48 + (d : Int) % 10).toNat := by
      rw [UInt8.lt_iff_toNat_lt, t _ (by omega), t _ (by omega)]
      omega
    simp [Op.bytesLess, this, e1]
/-- One comes ahead of the other by its facts' text. -/
def txLt (a b : In) : Prop := Op.bytesLess (fcB a.facts) (fcB b.facts) = true
/-- Facts in the order of their cells. -/
def FSort (F : List PFact) : Prop := F.Pairwise fun a b => a.1 < b.1
theorem onP_sort {F : List PFact} (hF : FSort F) (hk : FOk F) (c t1 t2 : Int) (i : In) : (onP F c t1 t2 i).Pairwise txLt := by
  unfold onP
  refine List.Pairwise.filterMap _ (R := fun a b : PFact => a.1 < b.1 ∧ b.1 < 60) ?_ ?_
  · intro a a' ⟨h1, h2⟩ b hb b' hb'
    cases ha : goP i.env c t1 t2 a with
    | none => rw [ha] at hb; cases hb
    | some e =>
      cases ha' : goP i.env c t1 t2 a' with
      | none => rw [ha'] at hb'; cases hb'
      | some e' =>
        rw [ha] at hb
        rw [ha'] at hb'
        simp only [Option.map_some, Option.some.injEq] at hb hb'
        rw [← hb, ← hb']
        unfold txLt
        simp only []
        rw [fcB_snoc, fcB_snoc, bl_pre]
        exact factP_lt h1 h2
  · refine List.Pairwise.imp_of_mem ?_ hF
    intro a b _ hb h
    exact ⟨h, (hk b hb).1⟩
theorem flat_sort {F : List PFact} (hF : FSort F) (hk : FOk F) (c t1 t2 : Int) (m : Nat) : ∀ (l : List In), l.Pairwise txLt → (∀ i ∈ l, i.facts.length = m) → (l.flatMap (onP F c t1 t2)).Pairwise txLt
  | [], _, _ => List.Pairwise.nil
  | i :: l, h, hm => by
    rw [List.flatMap_cons, List.pairwise_append]
    obtain ⟨h1, h2⟩ := List.pairwise_cons.mp h
    refine ⟨onP_sort hF hk c t1 t2 i, flat_sort hF hk c t1 t2 m l h2 (fun j hj => hm j (by simp [hj])), ?_⟩
    intro a ha b hb
    obtain ⟨j, hj, hbj⟩ := List.mem_flatMap.mp hb
    have sh : ∀ (x : In) (y : In), y ∈ onP F c t1 t2 x → ∃ q, y.facts = x.facts ++ [q] := by
      intro x y hy
      unfold onP at hy
      obtain ⟨q, _, hq⟩ := List.mem_filterMap.mp hy
      cases hg : goP x.env c t1 t2 q with
      | none => rw [hg] at hq; cases hq
      | some e =>
        rw [hg] at hq
        simp only [Option.map_some, Option.some.injEq] at hq
        exact ⟨q, by rw [← hq]⟩
    obtain ⟨q, hq⟩ := sh i a ha
    obtain ⟨q', hq'⟩ := sh j b hbj
    unfold txLt
    rw [hq, hq', fcB_snoc, fcB_snoc]
    refine bl_app _ _ _ _ ?_ (h1 j hj)
    rw [fcB_len, fcB_len, hm i (by simp), hm j (by simp [hj])]
theorem insK_sort {s : ByteArray} {F : List PFact} (hF : FSort F) (hk : FOk F) (hFl : F.length ≤ 60) {r : Nat} {L : List Nat} (hL : ∀ p ∈ L, cdOk s p = true) : ∀ k, k ≤ L.length → (insK s F r L k).Pairwise txLt
  | 0, _ => by simp [insK]
  | k + 1, hkl => by
    have ih := insK_sort hF hk hFl (r := r) hL k (by omega)
    have hlt : k < L.length := by omega
    rw [insK_succ s F r L k hlt]
    unfold onC
    split
    · exact ih.filter _
    · split
      · exact flat_sort hF hk _ _ _ _ _ ih (fun i hi => ((insK_len hFl r hL k (by omega)).2 i hi).1)
      · exact ih.filter _
/-- The order in which all instantiations stand: by rule, then by text. -/
def inLt (a b : In) : Prop := a.rule < b.rule ∨ (a.rule = b.rule ∧ txLt a b)
theorem instN_sort {s : ByteArray} {F : List PFact} (hF : FSort F) (hk : FOk F) (hFl : F.length ≤ 60) {R : List RuleP} (hL : ∀ r ∈ R, ∀ p ∈ r.2.1, cdOk s p = true) : ∀ n, n ≤ R.length → (instN 0 s F R n).Pairwise inLt ∧ ∀ i ∈ instN 0 s F R n, i.rule < n
  | 0, _ => by simp [instN]
  | n + 1, hn => by
    obtain ⟨h1, h2⟩ := instN_sort hF hk hFl hL n (by omega)
    have hlt : n < R.length := by omega
    have e : R.getD n (0, [], []) = R[n] := by simp [List.getD, List.getElem?_eq_getElem hlt]
    have h3 := insK_sort hF hk hFl (r := n) (hL _ (List.getElem_mem hlt)) R[n].2.1.length (Nat.le_refl _)
    have h4 := (insK_len hFl n (hL _ (List.getElem_mem hlt)) R[n].2.1.length (Nat.le_refl _)).2
    rw [insK_all] at h3 h4
    rw [instN_succ, e]
    refine ⟨?_, fun i hi => ?_⟩
    · rw [List.pairwise_append]
      refine ⟨h1, ?_, fun a ha b hb => .inl (by rw [(h4 b hb).2]; exact h2 a ha)⟩
      refine List.Pairwise.imp_of_mem ?_ h3
      intro a b ha hb h
      exact .inr ⟨by rw [(h4 a ha).2, (h4 b hb).2], h⟩
    · rcases List.mem_append.mp hi with hi | hi
      · have := h2 i hi; omega
      · have := (h4 i hi).2; omega

end Go.Proofs.YthlhbjnkohinmaaGreat

/- Plain: the program's times stand for the document's. -/
namespace Go.Proofs.YthlhbjnkohinmaaGreat
open Go.RowKit

/-- What the document's time is, by the program's. -/
def phiT (n sn t : Int) : Int := if t = 0 then -n - 2 else if t ≤ sn then t - n - 1 else t - sn
theorem phiT_lt {n sn t u : Int} (hs : 0 ≤ sn) (hn : sn ≤ n) (ht : 0 ≤ t) (h : t < u) : phiT n sn t < phiT n sn u := by
  unfold phiT
  split <;> split <;> (try split) <;> (try split) <;> omega
theorem phiT_max {n sn t u : Int} (hs : 0 ≤ sn) (hn : sn ≤ n) (ht : 0 ≤ t) (hu : 0 ≤ u) : (if phiT n sn u > phiT n sn t then phiT n sn u else phiT n sn t) = phiT n sn (if u > t then u else t) := by
  by_cases h : t < u
  · rw [if_pos (phiT_lt hs hn ht h), if_pos h]
  · rw [if_neg h, if_neg]
    by_cases e : u = t
    · subst e; omega
    · have := phiT_lt hs hn hu (show u < t by omega)
      omega
/-- What the time of a fact that a session sees is, on both sides. -/
theorem saw_time {X : PEng} {E : Eng} {L : List (Nat × Ses)} (h : Sim X E L) {q : Nat × Ses} (hq : q ∈ L) {p : PFact} (hp : p ∈ sawX X q.1) : 0 < p.2.2 ∧ (seesF E.com q.2 (cellT p.1)).2 = phiT E.com.length q.2.snap p.2.2 := by
  have hs := h.ses q hq
  have hsn := h.snap q hq
  unfold sawX sawN at hp
  obtain ⟨c, hc, hm⟩ := List.mem_filterMap.mp hp
  have hc60 : c < 60 := by simpa using hc
  cases hst : seenT (X.ses q.1) (fun c => histV (X.hist c) (X.ses q.1).snap) c with
  | none => rw [hst] at hm; cases hm
  | some r =>
    rw [hst] at hm
    simp only [Option.map_some, Option.some.injEq] at hm
    subst hm
    simp only []
    unfold seenT at hst
    cases hl : lastI (cellT c) q.2.wr with
    | some k =>
      have ht := hs.tm c hc60 k hl
      have hw : (X.ses q.1).wr c = lastW q.2.wr (cellT c) := hs.wr c hc60
      have hsome : ((X.ses q.1).wr c).isSome = true := by
        rw [hw]
        unfold lastW
        rw [hl]
        rfl
      obtain ⟨v, hv⟩ := Option.isSome_iff_exists.mp hsome
      rw [hv] at hst
      simp only at hst
      cases v with
      | none => cases hst
      | some y =>
        simp only [Option.map_some, Option.some.injEq] at hst
        rw [← hst]
        simp only []
        rw [ht]
        refine ⟨by omega, ?_⟩
        unfold seesF phiT
        rw [hl]
        simp only []
        rw [if_neg (by omega), if_neg (by omega)]
        omega
    | none =>
      have hw : (X.ses q.1).wr c = lastW q.2.wr (cellT c) := hs.wr c hc60
      have hnone : (X.ses q.1).wr c = none := by
        rw [hw]
        unfold lastW
        rw [hl]
        rfl
      rw [hnone] at hst
      simp only at hst
      have e1 : (X.ses q.1).snap = (q.2.snap.toNat : Int) := by rw [hs.snap]; omega
      have hle : q.2.snap.toNat ≤ E.com.length := by omega
      have h2 := h.hist c hc60 q.2.snap.toNat hle
      have h1 := h.histS c hc60 q.2.snap.toNat hle
      rw [← histV_two, ← e1] at h2
      rw [← e1] at h1
      cases hv2 : (histV (X.hist c) (X.ses q.1).snap).2 with
      | none => rw [hv2] at hst; cases hst
      | some y =>
        rw [hv2] at hst h2
        simp only [Option.map_some, Option.some.injEq] at hst
        rw [← hst]
        simp only []
        rw [h1]
        have hb := atF_bd E.com (cellT c) q.2.snap.toNat
        have hpos : (atF E.com (cellT c) q.2.snap.toNat).2 ≠ 0 := by
          intro e
          have hz : ∀ t, (atF E.com (cellT c) t).2 = 0 → (atF E.com (cellT c) t).1 = -1 := by
            intro t
            induction t with
            | zero => intro _; rfl
            | succ t ih =>
              unfold atF
              split
              · intro h3; simp only [] at h3; omega
              · exact ih
          rw [hz _ e] at h2
          simp [toO] at h2
        refine ⟨by omega, ?_⟩
        unfold seesF phiT
        rw [hl]
        simp only []
        rw [if_neg hpos, if_pos (by omega)]
theorem lat_phi {X : PEng} {E : Eng} {L : List (Nat × Ses)} (h : Sim X E L) {q : Nat × Ses} (hq : q ∈ L) {l : List PFact} (hl : ∀ p ∈ l, p ∈ sawX X q.1) : 0 ≤ latF l ∧ latD E.com q.2 l = phiT E.com.length q.2.snap (latF l) := by
  have hsn := h.snap q hq
  have key : ∀ (l : List PFact) (m : Int), 0 ≤ m → (∀ p ∈ l, p ∈ sawX X q.1) → 0 ≤ l.foldl (fun m q => if q.2.2 > m then q.2.2 else m) m ∧ l.foldl (fun n p => if (seesF E.com q.2 (cellT p.1)).2 > n then (seesF E.com q.2 (cellT p.1)).2 else n) (phiT E.com.length q.2.snap m) = phiT E.com.length q.2.snap (l.foldl (fun m q => if q.2.2 > m then q.2.2 else m) m) := by
    intro l
    induction l with
    | nil => intro m hm _; exact ⟨hm, rfl⟩
    | cons p l ih =>
      intro m hm hl
      obtain ⟨h1, h2⟩ := saw_time h hq (hl p (by simp))
      rw [List.foldl_cons, List.foldl_cons, h2, phiT_max hsn.1 hsn.2 hm (by omega)]
      refine ih _ ?_ (fun r hr => hl r (by simp [hr]))
      split <;> omega
  have := key l 0 (by omega) hl
  exact this
/-- So that the same comes ahead. -/
theorem ahead_same {n sn : Int} (hs : 0 ≤ sn) (hn : sn ≤ n) {ta tb : Int} (ha : 0 ≤ ta) (hb : 0 ≤ tb) (ua ub : Int) (ra rb : Nat) (lt : Bool) (hlt : (ra ≠ rb → ¬ ra < rb) ∧ (ra = rb → lt = false)) :
    aheadV ua ub (phiT n sn ta) (phiT n sn tb) ra rb lt = ahB ua ta ub tb := by
  unfold aheadV ahB
  by_cases hu : ua ≠ ub
  · rw [if_pos hu, if_pos hu]
  · rw [if_neg hu, if_neg hu]
    by_cases ht : ta = tb
    · subst ht
      rw [if_neg (by simp)]
      by_cases hr : ra = rb
      · rw [if_neg (by simpa using hr), hlt.2 hr]
        simp
      · rw [if_pos hr]
        have := hlt.1 hr
        simp [this]
    · rcases Int.lt_or_gt_of_ne ht with h | h
      · have := phiT_lt hs hn ha h
        rw [if_pos (by omega)]
        have e1 : ¬ phiT n sn ta > phiT n sn tb := by omega
        have e2 : ¬ ta > tb := by omega
        simp [e1, e2]
      · have := phiT_lt hs hn hb h
        rw [if_pos (by omega)]
        have e1 : phiT n sn ta > phiT n sn tb := by omega
        have e2 : ta > tb := by omega
        simp [e1, e2]

end Go.Proofs.YthlhbjnkohinmaaGreat
