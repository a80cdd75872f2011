import Derived.Test.YthlhbjnkohinmaaPartA0
import Derived.Test.YthlhbjnkohinmaaRead
import Derived.Test.YthlhbjnkohinmaaPart18
import Derived.Laws.StructEq
/- An engine beside the same with one session more: plain. -/
namespace Go.Proofs.Ythlhbjnkohinmaa
open Go.RowKit

/-- A session's number, where one was opened ahead of all. -/
def upN (n : Int) : Int := if n = 0 then 0 else n + 1
theorem upN_inj {a b : Int} (ha : 0 ≤ a) (hb : 0 ≤ b) (h : upN a = upN b) : a = b := by
  unfold upN at h
  split at h <;> split at h <;> omega
theorem upN_ne (a : Int) : upN a ≠ 1 := by
  unfold upN
  split <;> omega
def PSes.re (S : PSes) (n : Int) : PSes := { S with num := n }
/-- Y is X with one session more, at the first place. -/
structure AbS (X Y : PEng) : Prop where
  src : Y.src = X.src
  opened : Y.opened = X.opened + 1
  one : (Y.ses 0).num = 1
  ses : ∀ k, k < 7 → Y.ses (k + 1) = (X.ses k).re (upN (X.ses k).num)
  seven : (X.ses 7).num = 0
  latest : Y.latest = X.latest
  last : Y.last = X.last
  hist : Y.hist = X.hist
def AbM (F G : Mks) : Prop := ∀ k, k < 7 → G (k + 1) = F k
theorem numberedP_before {X : PEng} {n : Int} {k : Nat} (h : numberedP X n = some k) : ∀ j, j < k → (X.ses j).num ≠ n := by
  unfold numberedP at h
  rw [List.find?_eq_some_iff_getElem] at h
  obtain ⟨_, i, hi, e, hno⟩ := h
  simp only [List.getElem_range] at e
  subst e
  intro j hj
  have := hno j hj
  simpa using this
theorem AbS.numbered {i : Nat} {X Y : PEng} (h : AbS X Y) (hX : Fit i X) {m : Int} (hm : 0 ≤ m) {k : Nat} (hk : k < 7) (hf : numberedP X m = some k) : numberedP Y (upN m) = some (k + 1) := by
  obtain ⟨_, h1⟩ := numberedP_some hf
  refine numberedP_first (by omega) (by rw [h.ses k hk]; show upN (X.ses k).num = upN m; rw [h1]) (fun j hj => ?_)
  cases j with
  | zero => rw [h.one]; exact fun e => upN_ne _ e.symm
  | succ j =>
    rw [h.ses j (by omega)]
    intro e
    exact numberedP_before hf j (by omega) (upN_inj (hX.num j (by omega)).1 hm e)
theorem AbS.find {i : Nat} {X Y : PEng} (h : AbS X Y) (hX : Fit i X) {b : Int} (hb : 1 ≤ b) : (findP X b = none ∧ findP Y (b + 1) = none) ∨ ∃ k, k < 7 ∧ findP X b = some k ∧ findP Y (b + 1) = some (k + 1) := by
  have eb : upN b = b + 1 := by unfold upN; rw [if_neg (by omega)]
  unfold findP
  rw [if_neg (by omega), if_neg (by omega)]
  cases hf : numberedP X b with
  | none =>
    refine .inl ⟨rfl, numberedP_no (fun j hj => ?_)⟩
    cases j with
    | zero => rw [h.one]; omega
    | succ j =>
      rw [h.ses j (by omega)]
      intro e
      have e' : upN (X.ses j).num = upN b := by rw [eb]; exact e
      exact numberedP_none hf j (by omega) (upN_inj (hX.num j (by omega)).1 (by omega) e')
  | some k =>
    obtain ⟨hk, h1⟩ := numberedP_some hf
    have hk7 : k < 7 := by
      by_cases e : k = 7
      · subst e
        rw [h.seven] at h1
        omega
      · omega
    exact .inr ⟨k, hk7, rfl, by rw [← eb]; exact h.numbered hX (by omega) hk7 hf⟩
theorem AbS.set {X Y : PEng} (h : AbS X Y) {k : Nat} (hk : k < 7) (S : PSes) : AbS (X.setSes k S) (Y.setSes (k + 1) (S.re (upN S.num))) := by
  refine ⟨h.src, h.opened, ?_, fun j hj => ?_, ?_, h.latest, h.last, h.hist⟩
  · show (upd Y.ses (k + 1) (S.re (upN S.num)) 0).num = 1
    rw [upd_ne _ _ _ (by omega)]
    exact h.one
  · show upd Y.ses (k + 1) (S.re (upN S.num)) (j + 1) = (upd X.ses k S j).re (upN (upd X.ses k S j).num)
    by_cases e : j = k
    · subst e
      rw [upd_same, upd_same]
    · rw [upd_ne _ _ _ (by omega), upd_ne _ _ _ e]
      exact h.ses j hj
  · show (upd X.ses k S 7).num = 0
    rw [upd_ne _ _ _ (by omega)]
    exact h.seven
theorem AbM.next {i j : Nat} {X Y X' Y' : PEng} {F G : Mks} (hm : AbM F G) (h : AbS X Y) (h' : AbS X' Y') (hX : Fit i X) (hX' : Fit j X') : AbM (nextF X X' F) (nextF Y Y' G) := by
  intro k hk
  unfold nextF
  rw [h.ses k hk, h'.ses k hk, hm k hk]
  show (if upN (X'.ses k).num = upN (X.ses k).num then F k else noMk) = _
  by_cases e : (X'.ses k).num = (X.ses k).num
  · rw [if_pos (by rw [e]), if_pos e]
  · rw [if_neg (fun q => e (upN_inj (hX'.num k (by omega)).1 (hX.num k (by omega)).1 q)), if_neg e]
theorem puts_re (ws : List (Nat × Option Int)) (n : Int) : ∀ S : PSes, puts (S.re n) ws = (puts S ws).re n := by
  induction ws with
  | nil => intro S; rfl
  | cons q ws ih => intro S; exact ih (S.put q.1 q.2)
theorem runS_re (s : ByteArray) (R : List RuleP) (f : Nat → Int × Option Int) (a : Int) : ∀ (n : Nat) (S : PSes) (fm : Nat → Option Int), runS s R f n (S.re a) fm = ((runS s R f n S fm).1, (runS s R f n S fm).2.1.re a, (runS s R f n S fm).2.2)
  | 0, S, fm => rfl
  | n + 1, S, fm => by
    have e : fstS s R f (S.re a) fm = fstS s R f S fm := rfl
    unfold runS
    rw [e]
    cases fstS s R f S fm with
    | none => rfl
    | some i =>
      simp only []
      cases outA s i.env (R.getD i.rule (0, [], [])).2.2 with
      | none => rfl
      | some q =>
        simp only []
        rw [puts_re, runS_re s R f a n]
        split <;> rfl
theorem AbS.view {X Y : PEng} (h : AbS X Y) {k : Nat} (hk : k < 7) : viewP Y (k + 1) = viewP X k := by
  unfold viewP seenP
  rw [h.ses k hk, h.hist]
  rfl
theorem AbS.saw {X Y : PEng} (h : AbS X Y) {k : Nat} (hk : k < 7) : sawX Y (k + 1) = sawX X k := by
  unfold sawX
  rw [h.ses k hk, h.hist]
  rfl
theorem AbS.commit {X Y : PEng} (h : AbS X Y) (S T : PSes) (e : T.wr = S.wr) : AbS (X.commit S) (Y.commit T) := by
  refine ⟨h.src, h.opened, h.one, h.ses, h.seven, ?_, ?_, ?_⟩
  · show Y.latest + 1 = X.latest + 1
    rw [h.latest]
  · show (fun c => if (T.wr c).isSome then Y.latest + 1 else Y.last c) = (fun c => if (S.wr c).isSome then X.latest + 1 else X.last c)
    rw [h.latest, h.last, e]
  · show (fun c => match T.wr c with | some v => Y.hist c ++ [(Y.latest + 1, v)] | none => Y.hist c) = (fun c => match S.wr c with | some v => X.hist c ++ [(X.latest + 1, v)] | none => X.hist c)
    rw [h.latest, h.hist, e]
theorem writN_same {S T : PSes} (e : T.wr = S.wr) : ∀ n, writN T n = writN S n
  | 0 => rfl
  | n + 1 => by
    unfold writN
    rw [writN_same e n, e]

set_option maxHeartbeats 1000000 in
/-- An act on both: the same answer, but for a session's number. -/
theorem AbS.act {i : Nat} {X Y : PEng} {F G : Mks} (h : AbS X Y) (hm : AbM F G) (hX : Fit i X) (kd b c : Int) (s : ByteArray) (hR : RulesP X.src.2.1 X.src.2.2) (hb : 1 ≤ b) (hkd : kd ≠ 1) (h10 : kd ≠ 10) (hroom : kd = 6 → ((keptN X 60 + 60 : Nat) : Int) ≤ X.room) :
    (pact Y G kd (b + 1) c s).1 = (pact X F kd b c s).1 ∧ AbS (pact X F kd b c s).2.1 (pact Y G kd (b + 1) c s).2.1 ∧ AbM (pact X F kd b c s).2.2 (pact Y G kd (b + 1) c s).2.2 := by
  have hRY : RulesP Y.src.2.1 Y.src.2.2 := by rw [h.src]; exact hR
  have hkk : ∀ n, keptN Y n = keptN X n := fun n => keptN_same h.hist n
  have hf := h.find hX hb
  rcases kind_cases kd with h0 | rfl | rfl | rfl | rfl | rfl | rfl | rfl | rfl | rfl | rfl
  · rw [pact_none _ _ _ _ _ _ h0, pact_none _ _ _ _ _ _ h0]
    exact ⟨rfl, h, hm⟩
  · exact absurd rfl hkd
  · have key : (pputF Y (b + 1) s).1 = (pputF X b s).1 ∧ AbS (pputF X b s).2 (pputF Y (b + 1) s).2 := by
      unfold pputF
      rcases hf with ⟨e1, e2⟩ | ⟨k, hk, e1, e2⟩
      · rw [e1, e2]; exact ⟨rfl, h⟩
      · rw [e1, e2]
        cases factB s with
        | false => exact ⟨rfl, h⟩
        | true =>
          refine ⟨rfl, ?_⟩
          have := h.set hk ((X.ses k).put (cellN s) (some (bt s 2 - 48)))
          show AbS (X.setSes k _) (Y.setSes (k + 1) _)
          rw [h.ses k hk]
          exact this
    rw [pact_put, pact_put]
    exact ⟨by rw [key.1], key.2, hm.next h key.2 hX (hX.put b s)⟩
  · have key : (pclearF Y (b + 1) s).1 = (pclearF X b s).1 ∧ AbS (pclearF X b s).2 (pclearF Y (b + 1) s).2 := by
      unfold pclearF
      rcases hf with ⟨e1, e2⟩ | ⟨k, hk, e1, e2⟩
      · rw [e1, e2]; exact ⟨rfl, h⟩
      · rw [e1, e2]
        cases cellB s with
        | false => exact ⟨rfl, h⟩
        | true =>
          refine ⟨rfl, ?_⟩
          have := h.set hk ((X.ses k).put (cellN s) none)
          show AbS (X.setSes k _) (Y.setSes (k + 1) _)
          rw [h.ses k hk]
          exact this
    rw [pact_clear, pact_clear]
    exact ⟨by rw [key.1], key.2, hm.next h key.2 hX (hX.clear b s)⟩
  · rw [pact_view, pact_view]
    have key : pviewF Y (b + 1) = pviewF X b := by
      unfold pviewF
      rcases hf with ⟨e1, e2⟩ | ⟨k, hk, e1, e2⟩
      · rw [e1, e2]
      · rw [e1, e2]
        simp only []
        rw [h.view hk]
    rw [key]
    exact ⟨rfl, h, hm⟩
  · have key : (pabortF Y (b + 1)).1 = (pabortF X b).1 ∧ AbS (pabortF X b).2 (pabortF Y (b + 1)).2 := by
      unfold pabortF
      rcases hf with ⟨e1, e2⟩ | ⟨k, hk, e1, e2⟩
      · rw [e1, e2]; exact ⟨rfl, h⟩
      · rw [e1, e2]
        exact ⟨rfl, h.set hk .zero⟩
    rw [pact_abort, pact_abort]
    exact ⟨by rw [key.1], key.2, hm.next h key.2 hX (hX.abort b)⟩
  · have hr := hroom rfl
    have ex : pcommitG X b = pcommitF X b := pcommitG_room (fun k _ => by have := writN_le (X.ses k) 60; omega)
    have ey : pcommitG Y (b + 1) = pcommitF Y (b + 1) := pcommitG_room (fun k _ => by
      have := writN_le (Y.ses k) 60
      have e : Y.room = X.room := by unfold PEng.room; rw [h.src]
      rw [hkk, e]
      omega)
    have key : (pcommitG Y (b + 1)).1 = (pcommitG X b).1 ∧ AbS (pcommitG X b).2 (pcommitG Y (b + 1)).2 := by
      rw [ex, ey]
      unfold pcommitF
      rcases hf with ⟨e1, e2⟩ | ⟨k, hk, e1, e2⟩
      · rw [e1, e2]; exact ⟨rfl, h⟩
      · rw [e1, e2]
        simp only []
        have ew : hasW (Y.ses (k + 1)) = hasW (X.ses k) := by rw [h.ses k hk]; rfl
        have ec : clash Y (Y.ses (k + 1)) = clash X (X.ses k) := by rw [h.ses k hk]; unfold clash; rw [h.last]; rfl
        rw [ew, ec, h.latest]
        cases hasW (X.ses k) with
        | false => exact ⟨rfl, h.set hk .zero⟩
        | true =>
          cases clash X (X.ses k) with
          | true => exact ⟨rfl, h.set hk .zero⟩
          | false => exact ⟨rfl, (h.set hk .zero).commit _ _ (by rw [h.ses k hk]; rfl)⟩
    rw [pact_commit, pact_commit]
    exact ⟨by rw [key.1], key.2, hm.next h key.2 hX (hX.commit b)⟩
  · rw [pact_matches, pact_matches]
    have key : pmatE Y G (b + 1) = pmatE X F b := by
      unfold pmatE
      rcases hf with ⟨e1, e2⟩ | ⟨k, hk, e1, e2⟩
      · rw [e1, e2]
      · rw [e1, e2]
        simp only []
        rw [h.saw hk, h.src, hm k hk]
    rw [key]
    exact ⟨rfl, h, hm⟩
  · rw [pact_run, pact_run]
    unfold prunE
    rcases hf with ⟨e1, e2⟩ | ⟨k, hk, e1, e2⟩
    · rw [e1, e2]; exact ⟨rfl, h, hm⟩
    · rw [e1, e2]
      simp only []
      have er : ∀ n, runX Y G (k + 1) n = ((runX X F k n).1, (runX X F k n).2.1.re (upN (X.ses k).num), (runX X F k n).2.2) := fun n => by
        unfold runX
        rw [h.src, h.hist, h.ses k hk, hm k hk]
        exact runS_re _ _ _ _ _ _ _
      rw [er]
      split
      · have hok := runS_ok hR c.toNat (X.ses k) (F k) (hX.wok (by omega))
        have hn : (runX X F k c.toNat).2.1.num = (X.ses k).num := hok.num
        refine ⟨rfl, ?_, fun q hq => ?_⟩
        · have := h.set hk (runX X F k c.toNat).2.1
          rw [hn] at this
          exact this
        · show upd G (k + 1) _ (q + 1) = upd F k _ q
          by_cases e : q = k
          · subst e; rw [upd_same, upd_same]
          · rw [upd_ne _ _ _ (by omega), upd_ne _ _ _ e]
            exact hm q hq
      · exact ⟨rfl, h, hm⟩
  · rw [pact_kept, pact_kept, hkk]
    exact ⟨rfl, h, hm⟩
  · exact absurd rfl h10
/-- Open on both. -/
theorem AbS.opens {i : Nat} {X Y : PEng} {F G : Mks} (h : AbS X Y) (hm : AbM F G) (hX : Fit i X) (hfree : ∃ k, k < 7 ∧ (X.ses k).num = 0) :
    (popenF X).1 = (X.opened + 1, 0) ∧ (popenF Y).1 = (X.opened + 2, 0) ∧ AbS (popenF X).2 (popenF Y).2 ∧ AbM (nextF X (popenF X).2 F) (nextF Y (popenF Y).2 G) ∧ ∃ k, k < 7 ∧ (X.ses k).num = 0 ∧ (popenF X).2.ses = upd X.ses k (.new (X.opened + 1) X.latest) := by
  have ho := hX.opened
  obtain ⟨k0, hk0, h00⟩ := hfree
  have hnX : ∃ k, k < 7 ∧ numberedP X 0 = some k := by
    cases hf : numberedP X 0 with
    | none => exact absurd h00 (numberedP_none hf k0 (by omega))
    | some k =>
      refine ⟨k, ?_, rfl⟩
      by_cases e : k ≤ k0
      · omega
      · exact absurd h00 (numberedP_before hf k0 (by omega))
  obtain ⟨k, hk, hf⟩ := hnX
  have h0 := (numberedP_some hf).2
  have hfY : numberedP Y 0 = some (k + 1) := h.numbered hX (Int.le_refl 0) hk hf
  have eX : popenF X = ((X.opened + 1, 0), { X with opened := X.opened + 1, ses := upd X.ses k (.new (X.opened + 1) X.latest) }) := by unfold popenF; rw [hf]
  have eY : popenF Y = ((X.opened + 2, 0), { Y with opened := X.opened + 2, ses := upd Y.ses (k + 1) (.new (X.opened + 2) X.latest) }) := by
    unfold popenF
    rw [hfY, h.opened, h.latest, show X.opened + 1 + 1 = X.opened + 2 by omega]
  have hs : AbS (popenF X).2 (popenF Y).2 := by
    rw [eX, eY]
    have hz := h.set hk (.new (X.opened + 1) X.latest)
    refine ⟨h.src, by show X.opened + 2 = X.opened + 1 + 1; omega, hz.one, fun q hq => ?_, hz.seven, h.latest, h.last, h.hist⟩
    have := hz.ses q hq
    have e1 : (PSes.new (X.opened + 1) X.latest).re (upN (PSes.new (X.opened + 1) X.latest).num) = .new (X.opened + 2) X.latest := by
      show (PSes.new (X.opened + 1) X.latest).re (upN (X.opened + 1)) = _
      unfold upN
      rw [if_neg (by omega), show X.opened + 1 + 1 = X.opened + 2 by omega]
      rfl
    rw [e1] at this
    exact this
  refine ⟨by rw [eX], by rw [eY], hs, hm.next h hs hX hX.open, k, hk, h0, by rw [eX]⟩
/-- The stranger's own acts. -/
theorem AbS.strange {j : Nat} {X Y : PEng} {F G : Mks} (h : AbS X Y) (hm : AbM F G) (hY : Fit j Y) (hR : RulesP Y.src.2.1 Y.src.2.2) (kd c : Int) (s : ByteArray) (hkd : kd = 2 ∨ kd = 3 ∨ kd = 8) : AbS X (pact Y G kd 1 c s).2.1 ∧ AbM F (pact Y G kd 1 c s).2.2 := by
  have hf : findP Y 1 = some 0 := by
    unfold findP
    rw [if_neg (by omega)]
    exact numberedP_first (by omega) h.one (fun j hj => by omega)
  have hset : ∀ S : PSes, S.num = 1 → AbS X (Y.setSes 0 S) := fun S hS => by
    refine ⟨h.src, h.opened, ?_, fun k hk => ?_, h.seven, h.latest, h.last, h.hist⟩
    · show (upd Y.ses 0 S 0).num = 1
      rw [upd_same]
      exact hS
    · show upd Y.ses 0 S (k + 1) = _
      rw [upd_ne _ _ _ (by omega)]
      exact h.ses k hk
  have hnx : ∀ Y', (∀ k, k < 7 → Y'.ses (k + 1) = Y.ses (k + 1)) → AbM F (nextF Y Y' G) := fun Y' he k hk => by
    unfold nextF
    rw [he k hk, if_pos rfl]
    exact hm k hk
  have hsn : ∀ (S : PSes) (k : Nat), (Y.setSes 0 S).ses (k + 1) = Y.ses (k + 1) := fun S k => by
    show upd Y.ses 0 S (k + 1) = _
    exact upd_ne Y.ses 0 S (by omega)
  rcases hkd with rfl | rfl | rfl
  · rw [pact_put]
    unfold pputF
    rw [hf]
    cases factB s with
    | false => exact ⟨h, hnx _ (fun _ _ => rfl)⟩
    | true => exact ⟨hset _ h.one, hnx (Y.setSes 0 ((Y.ses 0).put (cellN s) (some (bt s 2 - 48)))) (fun k _ => hsn _ k)⟩
  · rw [pact_clear]
    unfold pclearF
    rw [hf]
    cases cellB s with
    | false => exact ⟨h, hnx _ (fun _ _ => rfl)⟩
    | true => exact ⟨hset _ h.one, hnx (Y.setSes 0 ((Y.ses 0).put (cellN s) none)) (fun k _ => hsn _ k)⟩
  · rw [pact_run]
    unfold prunE
    rw [hf]
    simp only []
    split
    · have hok := runS_ok hR c.toNat (Y.ses 0) (G 0) (hY.wok (by omega))
      refine ⟨hset _ (hok.num.trans h.one), fun k hk => ?_⟩
      show upd G 0 (runX Y G 0 c.toNat).2.2 (k + 1) = _
      rw [upd_ne _ _ _ (by omega)]
      exact hm k hk
    · exact ⟨h, hm⟩
/-- The stranger's end. -/
theorem AbS.ends {i : Nat} {X Y : PEng} (h : AbS X Y) (hX : Fit i X) : (pabortF Y 1).1 = 0 ∧ (pabortF (pabortF Y 1).2 1) = (6, (pabortF Y 1).2) ∧ keptN (psweepF (pabortF Y 1).2).2 60 = keptN (psweepF X).2 60 := by
  have hf : findP Y 1 = some 0 := by
    unfold findP
    rw [if_neg (by omega)]
    exact numberedP_first (by omega) h.one (fun j hj => by omega)
  have e : pabortF Y 1 = (0, Y.setSes 0 .zero) := by unfold pabortF; rw [hf]
  rw [e]
  have hz : (Y.setSes 0 .zero).ses 0 = .zero := by
    show upd Y.ses 0 .zero 0 = _
    exact upd_same Y.ses 0 .zero
  have hs : ∀ k, k < 7 → (Y.setSes 0 .zero).ses (k + 1) = (X.ses k).re (upN (X.ses k).num) := fun k hk => by
    show upd Y.ses 0 .zero (k + 1) = _
    rw [upd_ne _ _ _ (by omega)]
    exact h.ses k hk
  have hf2 : findP (Y.setSes 0 .zero) 1 = none := by
    unfold findP
    rw [if_neg (by omega)]
    refine numberedP_no (fun j hj => ?_)
    cases j with
    | zero => rw [hz]; show (0 : Int) ≠ 1; omega
    | succ j =>
      rw [hs j (by omega)]
      exact upN_ne _
  refine ⟨rfl, by unfold pabortF; rw [hf2], ?_⟩
  have hold : ∀ m, m ≤ 7 → oldN (Y.setSes 0 .zero) (m + 1) = oldN X m := by
    intro m
    induction m with
    | zero =>
      intro _
      have e1 : oldN (Y.setSes 0 .zero) 1 = if 0 < ((Y.setSes 0 .zero).ses 0).num ∧ ((Y.setSes 0 .zero).ses 0).snap < oldN (Y.setSes 0 .zero) 0 then ((Y.setSes 0 .zero).ses 0).snap else oldN (Y.setSes 0 .zero) 0 := rfl
      rw [e1, hz, if_neg (by intro q; exact absurd q.1 (by decide))]
      exact h.latest
    | succ m ih =>
      intro hm
      have e1 : oldN (Y.setSes 0 .zero) (m + 1 + 1) = if 0 < ((Y.setSes 0 .zero).ses (m + 1)).num ∧ ((Y.setSes 0 .zero).ses (m + 1)).snap < oldN (Y.setSes 0 .zero) (m + 1) then ((Y.setSes 0 .zero).ses (m + 1)).snap else oldN (Y.setSes 0 .zero) (m + 1) := rfl
      have e2 : oldN X (m + 1) = if 0 < (X.ses m).num ∧ (X.ses m).snap < oldN X m then (X.ses m).snap else oldN X m := rfl
      have hn := (hX.num m (by omega)).1
      rw [e1, e2, hs m (by omega), ih (by omega)]
      show (if 0 < upN (X.ses m).num ∧ (X.ses m).snap < oldN X m then (X.ses m).snap else oldN X m) = _
      have : 0 < upN (X.ses m).num ↔ 0 < (X.ses m).num := by
        unfold upN
        split <;> omega
      simp only [this]
  have h8 : oldN X 8 = oldN X 7 := by
    have e2 : oldN X 8 = if 0 < (X.ses 7).num ∧ (X.ses 7).snap < oldN X 7 then (X.ses 7).snap else oldN X 7 := rfl
    rw [e2, if_neg (by rw [h.seven]; omega)]
  refine keptN_same ?_ 60
  show (fun c => sweptH (Y.hist c) (oldN (Y.setSes 0 .zero) 8)) = (fun c => sweptH (X.hist c) (oldN X 8))
  rw [hold 7 (by omega), h8, h.hist]

end Go.Proofs.Ythlhbjnkohinmaa

/- How many sessions are open, how many commits there were: plain. -/
namespace Go.Proofs.Ythlhbjnkohinmaa
open Go.RowKit

def oneN (S : PSes) : Nat := if S.num = 0 then 0 else 1
/-- How many of the first places hold an open session. -/
def openN (X : PEng) : Nat → Nat
  | 0 => 0
  | n + 1 => openN X n + oneN (X.ses n)
theorem openN_same {X Y : PEng} : ∀ {n : Nat}, (∀ k, k < n → (Y.ses k).num = (X.ses k).num) → openN Y n = openN X n
  | 0, _ => rfl
  | n + 1, h => by
    unfold openN oneN
    rw [openN_same (n := n) (fun k hk => h k (by omega)), h n (by omega)]
theorem openN_set {X Y : PEng} {k : Nat} {S : PSes} (h : Y.ses = upd X.ses k S) : ∀ {n : Nat}, k < n → openN Y n + oneN (X.ses k) = openN X n + oneN S
  | 0, hk => by omega
  | n + 1, hk => by
    unfold openN
    by_cases e : k = n
    · subst e
      have : openN Y k = openN X k := openN_same (fun j hj => by rw [h, upd_ne _ _ _ (by omega)])
      rw [this, h, upd_same]
      omega
    · have := openN_set h (n := n) (by omega)
      rw [h, upd_ne _ _ _ (fun q => e q.symm)]
      omega
theorem openN_full {X : PEng} : ∀ {n : Nat}, (∀ k, k < n → (X.ses k).num ≠ 0) → openN X n = n
  | 0, _ => rfl
  | n + 1, h => by
    unfold openN oneN
    rw [openN_full (n := n) (fun k hk => h k (by omega)), if_neg (h n (by omega))]
theorem openN_le (X : PEng) : ∀ n, openN X n ≤ n
  | 0 => Nat.le_refl 0
  | n + 1 => by
    have := openN_le X n
    unfold openN oneN
    split <;> omega
theorem openN_free {X : PEng} (h : openN X 7 < 7) : ∃ k, k < 7 ∧ (X.ses k).num = 0 :=
  Classical.byContradiction fun hn => by
    have := openN_full (X := X) (n := 7) (fun k hk e => hn ⟨k, hk, e⟩)
    omega
theorem openN_end {X Y : PEng} {k : Nat} (h : Y.ses = upd X.ses k .zero) (hk : k < 7) (hn : (X.ses k).num ≠ 0) : openN Y 7 + 1 = openN X 7 := by
  have := openN_set h (n := 7) hk
  have e1 : oneN (X.ses k) = 1 := if_neg hn
  have e2 : oneN .zero = 0 := rfl
  omega
/-- What the statement knows of an engine. -/
structure OthN (X : PEng) (o cm : Int) : Prop where
  opn : (openN X 7 : Int) = o
  com : 0 ≤ cm ∧ cm ≤ 15
  kept : (keptN X 60 : Int) ≤ 60 * cm
  room : X.room = 999
def noteN (kd n e o cm : Int) : Int × Int :=
  if kd = 1 ∧ e = 0 then (o + 1, cm) else if kd = 5 ∧ e = 0 then (o - 1, cm) else if kd = 6 ∧ (e = 0 ∨ e = 10) then (o - 1, if 0 < n then cm + 1 else cm) else (o, cm)
def manyB (kd o cm : Int) : Prop := (kd = 1 ∧ 7 ≤ o) ∨ (kd = 6 ∧ 15 ≤ cm)
theorem noteN_other {kd n e o cm : Int} (h1 : kd ≠ 1) (h5 : kd ≠ 5) (h6 : kd ≠ 6) : noteN kd n e o cm = (o, cm) := by
  unfold noteN
  rw [if_neg (fun h => h1 h.1), if_neg (fun h => h5 h.1), if_neg (fun h => h6 h.1)]
theorem OthN.same {X Y : PEng} {o cm : Int} (h : OthN X o cm) (hn : ∀ k, k < 7 → (Y.ses k).num = (X.ses k).num) (hh : Y.hist = X.hist) (hs : Y.src = X.src) : OthN Y o cm :=
  ⟨by rw [openN_same hn]; exact h.opn, h.com, by rw [keptN_same hh]; exact h.kept, by rw [← h.room]; unfold PEng.room; rw [hs]⟩
theorem OthN.free {X : PEng} {o cm : Int} (h : OthN X o cm) (ho : o < 7) : ∃ k, k < 7 ∧ (X.ses k).num = 0 := openN_free (by have := h.opn; omega)
theorem OthN.bd {X : PEng} {o cm : Int} (h : OthN X o cm) : 0 ≤ o ∧ o ≤ 7 := by
  have := h.opn
  have := openN_le X 7
  omega
theorem OthN.full {X : PEng} {o cm : Int} (h : OthN X o cm) (hc : cm < 15) : ((keptN X 60 + 60 : Nat) : Int) ≤ X.room := by
  have := h.kept
  rw [h.room]
  omega
theorem set_num {X : PEng} {k : Nat} {S : PSes} (h : S.num = (X.ses k).num) : ∀ j, j < 7 → ((X.setSes k S).ses j).num = (X.ses j).num := fun j _ => by
  show (upd X.ses k S j).num = _
  by_cases e : j = k
  · subst e; rw [upd_same, h]
  · rw [upd_ne _ _ _ e]
set_option maxHeartbeats 1000000 in
/-- An act, noted. -/
theorem OthN.act {i : Nat} {X Y : PEng} {o cm : Int} (h : OthN X o cm) (hA : AbS X Y) (hX : Fit i X) (F : Mks) (kd b c : Int) (s : ByteArray) (hR : RulesP X.src.2.1 X.src.2.2) (hb : kd ≠ 1 → 1 ≤ b) (h10 : kd ≠ 10) (hmany : ¬ manyB kd o cm) :
    OthN (pact X F kd b c s).2.1 (noteN kd (pact X F kd b c s).1.2.1 (pact X F kd b c s).1.2.2.2 o cm).1 (noteN kd (pact X F kd b c s).1.2.1 (pact X F kd b c s).1.2.2.2 o cm).2 := by
  unfold manyB at hmany
  have hbd := h.bd
  have hop := h.opn
  have hcm := h.com
  have hkp := h.kept
  rcases kind_cases kd with h0 | rfl | rfl | rfl | rfl | rfl | rfl | rfl | rfl | rfl | rfl
  · rw [noteN_other (by omega) (by omega) (by omega), pact_none _ _ _ _ _ _ h0]
    exact h
  · obtain ⟨k0, hk0, h00⟩ := h.free (by omega)
    rw [pact_open]
    unfold popenF
    cases hf : numberedP X 0 with
    | none => exact absurd h00 (numberedP_none hf k0 (by omega))
    | some k =>
      have hk : k < 7 := by
        by_cases e : k ≤ k0
        · omega
        · exact absurd h00 (numberedP_before hf k0 (by omega))
      have hz := (numberedP_some hf).2
      have ho := hX.opened
      have e := openN_set (X := X) (Y := { X with opened := X.opened + 1, ses := upd X.ses k (.new (X.opened + 1) X.latest) }) (k := k) (S := .new (X.opened + 1) X.latest) rfl (n := 7) hk
      have e1 : oneN (X.ses k) = 0 := if_pos hz
      have e2 : oneN (.new (X.opened + 1) X.latest) = 1 := if_neg (by show X.opened + 1 ≠ 0; omega)
      refine ⟨?_, hcm, hkp, h.room⟩
      show (openN { X with opened := X.opened + 1, ses := upd X.ses k (.new (X.opened + 1) X.latest) } 7 : Int) = o + 1
      omega
  · rw [noteN_other (by omega) (by omega) (by omega), pact_put]
    unfold pputF
    cases hf : findP X b with
    | none => exact h
    | some k =>
      cases factB s with
      | false => exact h
      | true => exact h.same (set_num rfl) rfl rfl
  · rw [noteN_other (by omega) (by omega) (by omega), pact_clear]
    unfold pclearF
    cases hf : findP X b with
    | none => exact h
    | some k =>
      cases cellB s with
      | false => exact h
      | true => exact h.same (set_num rfl) rfl rfl
  · rw [noteN_other (by omega) (by omega) (by omega), pact_view]
    exact h
  · have hb1 := hb (by omega)
    rw [pact_abort]
    unfold pabortF
    rcases hA.find hX hb1 with ⟨e1, _⟩ | ⟨k, hk, e1, _⟩
    · rw [e1]; exact h
    · rw [e1]
      obtain ⟨_, q1, _⟩ := findP_spec e1
      have e := openN_end (X := X) (Y := X.setSes k .zero) rfl hk (by omega)
      refine ⟨?_, hcm, hkp, h.room⟩
      show (openN (X.setSes k .zero) 7 : Int) = o - 1
      omega
  · have hb1 := hb (by omega)
    have ex : pcommitG X b = pcommitF X b := pcommitG_room (fun k _ => by
      have := writN_le (X.ses k) 60
      have := h.full (by omega)
      omega)
    rw [pact_commit, ex]
    unfold pcommitF
    rcases hA.find hX hb1 with ⟨e1, _⟩ | ⟨k, hk, e1, _⟩
    · rw [e1]; exact h
    · rw [e1]
      obtain ⟨_, q1, _⟩ := findP_spec e1
      have e := openN_end (X := X) (Y := X.setSes k .zero) rfl hk (by omega)
      have hz : OthN (X.setSes k .zero) (o - 1) cm := by
        refine ⟨?_, hcm, hkp, h.room⟩
        omega
      simp only []
      cases hasW (X.ses k) with
      | false => exact hz
      | true =>
        cases clash X (X.ses k) with
        | true => exact hz
        | false =>
          have hl := hX.latest
          have hn : noteN 6 (X.latest + 1) 0 o cm = (o - 1, cm + 1) := by
            unfold noteN
            rw [if_neg (by omega), if_neg (by omega), if_pos (by omega), if_pos (by omega)]
          show OthN ((X.setSes k .zero).commit (X.ses k)) (noteN 6 (X.latest + 1) 0 o cm).1 (noteN 6 (X.latest + 1) 0 o cm).2
          rw [hn]
          refine ⟨hz.opn, by omega, ?_, h.room⟩
          rw [kept_comm]
          have := writN_le (X.ses k) 60
          have := hz.kept
          show ((keptN (X.setSes k .zero) 60 + writN (X.ses k) 60 : Nat) : Int) ≤ 60 * (cm + 1)
          omega
  · rw [noteN_other (by omega) (by omega) (by omega), pact_matches]
    exact h
  · rw [noteN_other (by omega) (by omega) (by omega), pact_run]
    unfold prunE
    cases hf : findP X b with
    | none => exact h
    | some k =>
      simp only []
      split
      · have hk := (findP_spec hf).1
        have hok := runS_ok hR c.toNat (X.ses k) (F k) (hX.wok hk)
        exact h.same (set_num hok.num) rfl rfl
      · exact h
  · rw [noteN_other (by omega) (by omega) (by omega), pact_kept]
    exact h
  · exact absurd rfl h10
/-- At the start: one session in the other engine. -/
theorem abs_start (r : Src) : (popenF (X0 r)).1 = (1, 0) ∧ AbS (X0 r) (popenF (X0 r)).2 ∧ AbM (fun _ => noMk) (nextF (X0 r) (popenF (X0 r)).2 (fun _ => noMk)) := by
  have hf : numberedP (X0 r) 0 = some 0 := numberedP_first (by omega) rfl (fun j hj => by omega)
  have e : popenF (X0 r) = ((1, 0), { X0 r with opened := 1, ses := upd (X0 r).ses 0 (.new 1 0) }) := by
    unfold popenF
    rw [hf]
    rfl
  rw [e]
  refine ⟨rfl, ⟨rfl, rfl, rfl, fun k hk => ?_, rfl, rfl, rfl, rfl⟩, fun k hk => ?_⟩
  · show upd (X0 r).ses 0 (.new 1 0) (k + 1) = _
    rw [upd_ne _ _ _ (by omega)]
    rfl
  · unfold nextF
    split <;> rfl
theorem othN_start (r : Src) (h : r.1.2 = 999) : OthN (X0 r) 0 0 := ⟨rfl, by omega, by show ((keptN (X0 r) 60 : Nat) : Int) ≤ 0; rw [show keptN (X0 r) 60 = 0 from rfl]; exact Int.le_refl 0, h⟩

end Go.Proofs.Ythlhbjnkohinmaa

/- What a text is read as is one thing. -/
namespace Go.Proofs.Ythlhbjnkohinmaa
open Go.RowKit

theorem Cds.inv {s : ByteArray} {i : Nat} {L : List Nat} {j : Nat} {ok : Bool} (h : Cds s i L j ok) :
    (¬ i < s.size ∧ L = [] ∧ j = i ∧ ok = false) ∨ (i < s.size ∧ cdOk s i = false ∧ L = [] ∧ j = i + cdLen s i ∧ ok = false) ∨
    (i < s.size ∧ cdOk s i = true ∧ bt s (i + cdLen s i) = 62 ∧ L = [i] ∧ j = i + cdLen s i + 1 ∧ ok = true) ∨
    (i < s.size ∧ cdOk s i = true ∧ ¬ bt s (i + cdLen s i) = 62 ∧ ¬ bt s (i + cdLen s i) = 44 ∧ L = [i] ∧ j = i + cdLen s i ∧ ok = false) ∨
    (i < s.size ∧ cdOk s i = true ∧ bt s (i + cdLen s i) = 44 ∧ ∃ L1, L = i :: L1 ∧ Cds s (i + cdLen s i + 1) L1 j ok) := by
  refine Cds.ind (M := fun i L j ok => (¬ i < s.size ∧ L = [] ∧ j = i ∧ ok = false) ∨ (i < s.size ∧ cdOk s i = false ∧ L = [] ∧ j = i + cdLen s i ∧ ok = false) ∨
    (i < s.size ∧ cdOk s i = true ∧ bt s (i + cdLen s i) = 62 ∧ L = [i] ∧ j = i + cdLen s i + 1 ∧ ok = true) ∨
    (i < s.size ∧ cdOk s i = true ∧ ¬ bt s (i + cdLen s i) = 62 ∧ ¬ bt s (i + cdLen s i) = 44 ∧ L = [i] ∧ j = i + cdLen s i ∧ ok = false) ∨
    (i < s.size ∧ cdOk s i = true ∧ bt s (i + cdLen s i) = 44 ∧ ∃ L1, L = i :: L1 ∧ Cds s (i + cdLen s i + 1) L1 j ok)) ?_ ?_ ?_ ?_ ?_ h
  · intro i h1
    exact .inl ⟨h1, rfl, rfl, rfl⟩
  · intro i h1 h2
    exact .inr (.inl ⟨h1, h2, rfl, rfl, rfl⟩)
  · intro i h1 h2 h3
    exact .inr (.inr (.inl ⟨h1, h2, h3, rfl, rfl, rfl⟩))
  · intro i h1 h2 h3 h4
    exact .inr (.inr (.inr (.inl ⟨h1, h2, h3, h4, rfl, rfl, rfl⟩)))
  · intro i L j ok h1 h2 h3 h4 _
    exact .inr (.inr (.inr (.inr ⟨h1, h2, h3, L, rfl, h4⟩)))
theorem Cds.unique {s : ByteArray} {i : Nat} {L : List Nat} {j : Nat} {ok : Bool} (h : Cds s i L j ok) : ∀ {L' : List Nat} {j' : Nat} {ok' : Bool}, Cds s i L' j' ok' → L = L' ∧ j = j' ∧ ok = ok' := by
  refine Cds.ind (M := fun i L j ok => ∀ {L' : List Nat} {j' : Nat} {ok' : Bool}, Cds s i L' j' ok' → L = L' ∧ j = j' ∧ ok = ok') ?_ ?_ ?_ ?_ ?_ h
  · intro i h1 L' j' ok' h'
    rcases h'.inv with ⟨_, e1, e2, e3⟩ | ⟨k, _⟩ | ⟨k, _⟩ | ⟨k, _⟩ | ⟨k, _⟩
    · exact ⟨e1.symm, e2.symm, e3.symm⟩
    all_goals exact absurd k h1
  · intro i h1 h2 L' j' ok' h'
    rcases h'.inv with ⟨k, _⟩ | ⟨_, _, e1, e2, e3⟩ | ⟨_, k, _⟩ | ⟨_, k, _⟩ | ⟨_, k, _⟩
    · exact absurd h1 k
    · exact ⟨e1.symm, e2.symm, e3.symm⟩
    all_goals (rw [h2] at k; cases k)
  · intro i h1 h2 h3 L' j' ok' h'
    rcases h'.inv with ⟨k, _⟩ | ⟨_, k, _⟩ | ⟨_, _, _, e1, e2, e3⟩ | ⟨_, _, k, _⟩ | ⟨_, _, k, _⟩
    · exact absurd h1 k
    · rw [h2] at k; cases k
    · exact ⟨e1.symm, e2.symm, e3.symm⟩
    · exact absurd h3 k
    · rw [h3] at k; exact absurd k (by decide)
  · intro i h1 h2 h3 h4 L' j' ok' h'
    rcases h'.inv with ⟨k, _⟩ | ⟨_, k, _⟩ | ⟨_, _, k, _⟩ | ⟨_, _, _, _, e1, e2, e3⟩ | ⟨_, _, k, _⟩
    · exact absurd h1 k
    · rw [h2] at k; cases k
    · exact absurd k h3
    · exact ⟨e1.symm, e2.symm, e3.symm⟩
    · exact absurd k h4
  · intro i L j ok h1 h2 h3 _ ih L' j' ok' h'
    rcases h'.inv with ⟨k, _⟩ | ⟨_, k, _⟩ | ⟨_, _, k, _⟩ | ⟨_, _, _, k, _⟩ | ⟨_, _, _, L1, e1, hr⟩
    · exact absurd h1 k
    · rw [h2] at k; cases k
    · rw [h3] at k; exact absurd k (by decide)
    · exact absurd h3 k
    · obtain ⟨a1, a2, a3⟩ := ih hr
      exact ⟨by rw [a1, e1], a2, a3⟩
theorem Acs.inv {s : ByteArray} {i : Nat} {L : List Nat} {j : Nat} {ok : Bool} (h : Acs s i L j ok) :
    (¬ i < s.size ∧ L = [] ∧ j = i ∧ ok = false) ∨ (i < s.size ∧ acOk s i = false ∧ L = [] ∧ j = i + acLen s i ∧ ok = false) ∨
    (i < s.size ∧ acOk s i = true ∧ bt s (i + acLen s i) = 59 ∧ L = [i] ∧ j = i + acLen s i + 1 ∧ ok = true) ∨
    (i < s.size ∧ acOk s i = true ∧ ¬ bt s (i + acLen s i) = 59 ∧ ¬ bt s (i + acLen s i) = 44 ∧ L = [i] ∧ j = i + acLen s i ∧ ok = false) ∨
    (i < s.size ∧ acOk s i = true ∧ bt s (i + acLen s i) = 44 ∧ ∃ L1, L = i :: L1 ∧ Acs s (i + acLen s i + 1) L1 j ok) := by
  refine Acs.ind (M := fun i L j ok => (¬ i < s.size ∧ L = [] ∧ j = i ∧ ok = false) ∨ (i < s.size ∧ acOk s i = false ∧ L = [] ∧ j = i + acLen s i ∧ ok = false) ∨
    (i < s.size ∧ acOk s i = true ∧ bt s (i + acLen s i) = 59 ∧ L = [i] ∧ j = i + acLen s i + 1 ∧ ok = true) ∨
    (i < s.size ∧ acOk s i = true ∧ ¬ bt s (i + acLen s i) = 59 ∧ ¬ bt s (i + acLen s i) = 44 ∧ L = [i] ∧ j = i + acLen s i ∧ ok = false) ∨
    (i < s.size ∧ acOk s i = true ∧ bt s (i + acLen s i) = 44 ∧ ∃ L1, L = i :: L1 ∧ Acs s (i + acLen s i + 1) L1 j ok)) ?_ ?_ ?_ ?_ ?_ h
  · intro i h1
    exact .inl ⟨h1, rfl, rfl, rfl⟩
  · intro i h1 h2
    exact .inr (.inl ⟨h1, h2, rfl, rfl, rfl⟩)
  · intro i h1 h2 h3
    exact .inr (.inr (.inl ⟨h1, h2, h3, rfl, rfl, rfl⟩))
  · intro i h1 h2 h3 h4
    exact .inr (.inr (.inr (.inl ⟨h1, h2, h3, h4, rfl, rfl, rfl⟩)))
  · intro i L j ok h1 h2 h3 h4 _
    exact .inr (.inr (.inr (.inr ⟨h1, h2, h3, L, rfl, h4⟩)))
theorem Acs.unique {s : ByteArray} {i : Nat} {L : List Nat} {j : Nat} {ok : Bool} (h : Acs s i L j ok) : ∀ {L' : List Nat} {j' : Nat} {ok' : Bool}, Acs s i L' j' ok' → L = L' ∧ j = j' ∧ ok = ok' := by
  refine Acs.ind (M := fun i L j ok => ∀ {L' : List Nat} {j' : Nat} {ok' : Bool}, Acs s i L' j' ok' → L = L' ∧ j = j' ∧ ok = ok') ?_ ?_ ?_ ?_ ?_ h
  · intro i h1 L' j' ok' h'
    rcases h'.inv with ⟨_, e1, e2, e3⟩ | ⟨k, _⟩ | ⟨k, _⟩ | ⟨k, _⟩ | ⟨k, _⟩
    · exact ⟨e1.symm, e2.symm, e3.symm⟩
    all_goals exact absurd k h1
  · intro i h1 h2 L' j' ok' h'
    rcases h'.inv with ⟨k, _⟩ | ⟨_, _, e1, e2, e3⟩ | ⟨_, k, _⟩ | ⟨_, k, _⟩ | ⟨_, k, _⟩
    · exact absurd h1 k
    · exact ⟨e1.symm, e2.symm, e3.symm⟩
    all_goals (rw [h2] at k; cases k)
  · intro i h1 h2 h3 L' j' ok' h'
    rcases h'.inv with ⟨k, _⟩ | ⟨_, k, _⟩ | ⟨_, _, _, e1, e2, e3⟩ | ⟨_, _, k, _⟩ | ⟨_, _, k, _⟩
    · exact absurd h1 k
    · rw [h2] at k; cases k
    · exact ⟨e1.symm, e2.symm, e3.symm⟩
    · exact absurd h3 k
    · rw [h3] at k; exact absurd k (by decide)
  · intro i h1 h2 h3 h4 L' j' ok' h'
    rcases h'.inv with ⟨k, _⟩ | ⟨_, k, _⟩ | ⟨_, _, k, _⟩ | ⟨_, _, _, _, e1, e2, e3⟩ | ⟨_, _, k, _⟩
    · exact absurd h1 k
    · rw [h2] at k; cases k
    · exact absurd k h3
    · exact ⟨e1.symm, e2.symm, e3.symm⟩
    · exact absurd k h4
  · intro i L j ok h1 h2 h3 _ ih L' j' ok' h'
    rcases h'.inv with ⟨k, _⟩ | ⟨_, k, _⟩ | ⟨_, _, k, _⟩ | ⟨_, _, _, k, _⟩ | ⟨_, _, _, L1, e1, hr⟩
    · exact absurd h1 k
    · rw [h2] at k; cases k
    · rw [h3] at k; exact absurd k (by decide)
    · exact absurd h3 k
    · obtain ⟨a1, a2, a3⟩ := ih hr
      exact ⟨by rw [a1, e1], a2, a3⟩
theorem Rul.unique {s : ByteArray} {i : Nat} {L K L' K' : List Nat} {j j' : Nat} {ok ok' : Bool} (h : Rul s i L K j ok) (h' : Rul s i L' K' j' ok') : L = L' ∧ K = K' ∧ j = j' ∧ ok = ok' := by
  rcases h with ⟨a, rfl, rfl, rfl, rfl⟩ | ⟨a, b, rfl, rfl, rfl, rfl⟩ | ⟨a, b, c, rfl, rfl⟩ | ⟨j1, a, b, c, d⟩ <;>
    rcases h' with ⟨a', rfl, rfl, rfl, rfl⟩ | ⟨a', b', rfl, rfl, rfl, rfl⟩ | ⟨a', b', c', rfl, rfl⟩ | ⟨j1', a', b', c', d'⟩
  · exact ⟨rfl, rfl, rfl, rfl⟩
  · rw [a] at a'; cases a'
  · rw [a] at a'; cases a'
  · rw [a] at a'; cases a'
  · rw [a] at a'; cases a'
  · exact ⟨rfl, rfl, rfl, rfl⟩
  · exact absurd b' b
  · exact absurd b' b
  · rw [a] at a'; cases a'
  · exact absurd b b'
  · obtain ⟨e1, e2, _⟩ := c.unique c'
    exact ⟨e1, rfl, e2, rfl⟩
  · obtain ⟨_, _, e3⟩ := c.unique c'
    cases e3
  · rw [a] at a'; cases a'
  · exact absurd b b'
  · obtain ⟨_, _, e3⟩ := c.unique c'
    cases e3
  · obtain ⟨e1, e2, _⟩ := c.unique c'
    subst e2
    obtain ⟨f1, f2, f3⟩ := d.unique d'
    exact ⟨e1, f1, f2, f3⟩
theorem Rls.inv {s : ByteArray} {i : Nat} {R : List RuleP} {j : Nat} {ok : Bool} (h : Rls s i R j ok) :
    (¬ i < s.size ∧ R = [] ∧ j = i ∧ ok = true) ∨ (i < s.size ∧ ∃ L K, Rul s i L K j false ∧ R = [] ∧ ok = false) ∨ (i < s.size ∧ ∃ L K j1 R1, Rul s i L K j1 true ∧ Rls s j1 R1 j ok ∧ R = (i, L, K) :: R1) := by
  refine Rls.ind (M := fun i R j ok => (¬ i < s.size ∧ R = [] ∧ j = i ∧ ok = true) ∨ (i < s.size ∧ ∃ L K, Rul s i L K j false ∧ R = [] ∧ ok = false) ∨ (i < s.size ∧ ∃ L K j1 R1, Rul s i L K j1 true ∧ Rls s j1 R1 j ok ∧ R = (i, L, K) :: R1)) ?_ ?_ ?_ h
  · intro i h1
    exact .inl ⟨h1, rfl, rfl, rfl⟩
  · intro i L K j h1 h2
    exact .inr (.inl ⟨h1, L, K, h2, rfl, rfl⟩)
  · intro i L K j R j' ok h1 h2 h3 _
    exact .inr (.inr ⟨h1, L, K, j, R, h2, h3, rfl⟩)
theorem Rls.unique {s : ByteArray} {i : Nat} {R : List RuleP} {j : Nat} {ok : Bool} (h : Rls s i R j ok) : ∀ {R' : List RuleP} {j' : Nat} {ok' : Bool}, Rls s i R' j' ok' → R = R' ∧ j = j' ∧ ok = ok' := by
  refine Rls.ind (M := fun i R j ok => ∀ {R' : List RuleP} {j' : Nat} {ok' : Bool}, Rls s i R' j' ok' → R = R' ∧ j = j' ∧ ok = ok') ?_ ?_ ?_ h
  · intro i h1 R' j' ok' h'
    rcases h'.inv with ⟨_, e1, e2, e3⟩ | ⟨k, _⟩ | ⟨k, _⟩
    · exact ⟨e1.symm, e2.symm, e3.symm⟩
    · exact absurd k h1
    · exact absurd k h1
  · intro i L K j h1 h2 R' j' ok' h'
    rcases h'.inv with ⟨k, _⟩ | ⟨_, L', K', k2, e1, e3⟩ | ⟨_, L', K', j1, R1, k2, _⟩
    · exact absurd h1 k
    · obtain ⟨_, _, e2, _⟩ := h2.unique k2
      exact ⟨e1.symm, e2, e3.symm⟩
    · obtain ⟨_, _, _, e⟩ := h2.unique k2
      cases e
  · intro i L K j R j1 ok h1 h2 _ ih R' j' ok' h'
    rcases h'.inv with ⟨k, _⟩ | ⟨_, L', K', k2, _⟩ | ⟨_, L', K', j2, R1, k2, k3, e1⟩
    · exact absurd h1 k
    · obtain ⟨_, _, _, e⟩ := h2.unique k2
      cases e
    · obtain ⟨f1, f2, f3, _⟩ := h2.unique k2
      subst f3
      obtain ⟨g1, g2, g3⟩ := ih k3
      exact ⟨by rw [e1, f1, f2, g1], g2, g3⟩
theorem ReadAns.same {s : ByteArray} {R R' : List RuleP} (h : ReadAns s 0 0 (some R)) (h' : ReadAns s 0 0 (some R')) : R = R' := by
  rcases h with ⟨_, h, _⟩ | ⟨_, _, _, _, h, _⟩ | ⟨_, _, _, _, _, _, h, _⟩ | ⟨_, _, _, _, _, _, _, h, _⟩ | ⟨Q, j, _, h2, _, _, _, _, h5⟩
  · cases h
  · cases h
  · cases h
  · cases h
  · rcases h' with ⟨_, h, _⟩ | ⟨_, _, _, _, h, _⟩ | ⟨_, _, _, _, _, _, h, _⟩ | ⟨_, _, _, _, _, _, _, h, _⟩ | ⟨Q', j', _, k2, _, _, _, _, k5⟩
    · cases h
    · cases h
    · cases h
    · cases h
    · cases h5
      cases k5
      exact (h2.unique k2).1
theorem ReadAns.not_both {s : ByteArray} {R : List RuleP} {x p : Int} (h : ReadAns s 0 0 (some R)) (h' : ReadAns s x p none) : False := by
  rcases h with ⟨_, h, _⟩ | ⟨_, _, _, _, h, _⟩ | ⟨_, _, _, _, _, _, h, _⟩ | ⟨_, _, _, _, _, _, _, h, _⟩ | ⟨Q, j, h1, h2, h3, h4, _, _, h5⟩
  · cases h
  · cases h
  · cases h
  · cases h
  · rcases h' with ⟨k, _⟩ | ⟨_, _, _, k, _⟩ | ⟨Q', j', m, _, k2, k3, _⟩ | ⟨Q', j', m, _, k2, _, k3, _⟩ | ⟨Q', j', _, _, _, _, _, _, k5⟩
    · omega
    · have := (h2.unique k).2.2
      cases this
    · obtain ⟨e, _⟩ := h2.unique k2
      subst e
      have := FirstBad.unique h3 k3
      cases this
    · obtain ⟨e, _⟩ := h2.unique k2
      subst e
      have := FirstBad.unique h4 k3
      cases this
    · cases k5

end Go.Proofs.Ythlhbjnkohinmaa

/- Two engines in the statements' loops. -/
namespace Go.Proofs.Ythlhbjnkohinmaa
open Go.RowKit

abbrev Boxes := List (Nat × Array Value × TypeId)
/-- Two engines, side by side, and some boxes beside them: their blocks are new, all that is old is as it was. -/
structure E2 (base x y : Nat) (w wr : World) (X : PEng) (F : Mks) (Y : PEng) (G : Mks) (Bx : Boxes) (f g : List Nat) : Prop where
  one : PEngE x X F wr f
  two : PEngE y Y G wr g
  nd : (f ++ g).Nodup
  above : ∀ q ∈ f ++ g, base ≤ q
  below : Below base w wr
  room : base ≤ wr.heap.size
  box : ∀ b ∈ Bx, wr.heap[b.1]? = some (.cells b.2.1 b.2.2 (0, 0)) ∧ b.1 ∉ f ++ g
def EE (base x y : Nat) (w : World) (X : PEng) (F : Mks) (Y : PEng) (G : Mks) (Bx : Boxes) (wr : World) : Prop := ∃ f g, E2 base x y w wr X F Y G Bx f g
theorem E2.step1 {base x y : Nat} {Bx : Boxes} {w wr wr' : World} {X X' Y : PEng} {F F' G : Mks} {f g : List Nat} (h : E2 base x y w wr X F Y G Bx f g) (ht : ATo (PEngE x X' F') f wr wr') : EE base x y w X' F' Y G Bx wr' := by
  obtain ⟨f', a, n, s, r⟩ := ht
  have hnd := h.nd
  rw [List.nodup_append] at hnd
  obtain ⟨n1, n2, d⟩ := hnd
  have hg := PEngE.within _ _ _ h.two
  refine ⟨f', g, a, PEngE.framed _ _ _ h.two r (fun q hq hf => d q hf q hq rfl), ?_, fun q hq => ?_, h.below.trans (r.below h.room (fun q hq => h.above q (List.mem_append_left _ hq))), Nat.le_trans h.room r.size, fun b hb => ?_⟩
  · rw [List.nodup_append]
    refine ⟨n, n2, fun a ha b hb e => ?_⟩
    subst e
    rcases s a ha with k | k
    · exact d a k a hb rfl
    · have := hg a hb; omega
  · rcases List.mem_append.mp hq with hq | hq
    · rcases s q hq with k | k
      · exact h.above q (List.mem_append_left _ k)
      · exact Nat.le_trans h.room k
    · exact h.above q (List.mem_append_right _ hq)
  · obtain ⟨b1, b2⟩ := h.box b hb
    have hbl := lt_of_block b1
    refine ⟨(r.block _ hbl (fun e => b2 (List.mem_append_left _ e))).trans b1, fun e => ?_⟩
    rcases List.mem_append.mp e with e | e
    · rcases s _ e with k | k
      · exact b2 (List.mem_append_left _ k)
      · omega
    · exact b2 (List.mem_append_right _ e)
theorem E2.step2 {base x y : Nat} {Bx : Boxes} {w wr wr' : World} {X Y Y' : PEng} {F G G' : Mks} {f g : List Nat} (h : E2 base x y w wr X F Y G Bx f g) (ht : ATo (PEngE y Y' G') g wr wr') : EE base x y w X F Y' G' Bx wr' := by
  obtain ⟨g', a, n, s, r⟩ := ht
  have hnd := h.nd
  rw [List.nodup_append] at hnd
  obtain ⟨n1, n2, d⟩ := hnd
  have hf := PEngE.within _ _ _ h.one
  refine ⟨f, g', PEngE.framed _ _ _ h.one r (fun q hq hg => d q hq q hg rfl), a, ?_, fun q hq => ?_, h.below.trans (r.below h.room (fun q hq => h.above q (List.mem_append_right _ hq))), Nat.le_trans h.room r.size, fun b hb => ?_⟩
  · rw [List.nodup_append]
    refine ⟨n1, n, fun a ha b hb e => ?_⟩
    subst e
    rcases s a hb with k | k
    · exact d a ha a k rfl
    · have := hf a ha; omega
  · rcases List.mem_append.mp hq with hq | hq
    · exact h.above q (List.mem_append_left _ hq)
    · rcases s q hq with k | k
      · exact h.above q (List.mem_append_right _ k)
      · exact Nat.le_trans h.room k
  · obtain ⟨b1, b2⟩ := h.box b hb
    have hbl := lt_of_block b1
    refine ⟨(r.block _ hbl (fun e => b2 (List.mem_append_right _ e))).trans b1, fun e => ?_⟩
    rcases List.mem_append.mp e with e | e
    · exact b2 (List.mem_append_left _ e)
    · rcases s _ e with k | k
      · exact b2 (List.mem_append_right _ k)
      · omega
theorem EE.quiet {base x y : Nat} {Bx : Boxes} {w wr wr' : World} {X Y : PEng} {F G : Mks} (h : EE base x y w X F Y G Bx wr) (hf : Fr [] wr wr') : EE base x y w X F Y G Bx wr' := by
  obtain ⟨f, g, h⟩ := h
  exact ⟨f, g, PEngE.framed _ _ _ h.one hf (by simp), PEngE.framed _ _ _ h.two hf (by simp), h.nd, h.above, h.below.trans (hf.below h.room (by simp)), Nat.le_trans h.room hf.size, fun b hb => ⟨(hf.block _ (lt_of_block (h.box b hb).1) (by simp)).trans (h.box b hb).1, (h.box b hb).2⟩⟩
/-- A box more. -/
theorem EE.alloc {base x y : Nat} {Bx : Boxes} {w wr : World} {X Y : PEng} {F G : Mks} (h : EE base x y w X F Y G Bx wr) (cs : Array Value) (t : TypeId) : EE base x y w X F Y G ((wr.heap.size, cs, t) :: Bx) (wr.alloc (.cells cs t)) := by
  obtain ⟨f, g, k⟩ := h.quiet (fr_alloc wr (.cells cs t))
  obtain ⟨f0, g0, k0⟩ := h
  refine ⟨f0, g0, PEngE.framed _ _ _ k0.one (fr_alloc wr _) (by simp), PEngE.framed _ _ _ k0.two (fr_alloc wr _) (by simp), k0.nd, k0.above, k.below, k.room, fun b hb => ?_⟩
  rcases List.mem_cons.mp hb with e | hb
  · subst e
    refine ⟨heap_alloc_new wr _, fun e => ?_⟩
    rcases List.mem_append.mp e with e | e
    · have := PEngE.within _ _ _ k0.one _ e; simp at this
    · have := PEngE.within _ _ _ k0.two _ e; simp at this
  · exact ⟨((fr_alloc wr _).block _ (lt_of_block (k0.box b hb).1) (by simp)).trans (k0.box b hb).1, (k0.box b hb).2⟩
/-- Fewer boxes. -/
theorem EE.less {base x y : Nat} {Bx Bx' : Boxes} {w wr : World} {X Y : PEng} {F G : Mks} (h : EE base x y w X F Y G Bx wr) (hb : ∀ b ∈ Bx', b ∈ Bx) : EE base x y w X F Y G Bx' wr := by
  obtain ⟨f, g, h⟩ := h
  exact ⟨f, g, h.one, h.two, h.nd, h.above, h.below, h.room, fun b k => h.box b (hb b k)⟩
theorem EE.box {base x y : Nat} {Bx : Boxes} {w wr : World} {X Y : PEng} {F G : Mks} (h : EE base x y w X F Y G Bx wr) {b : Nat × Array Value × TypeId} (hb : b ∈ Bx) : wr.heap[b.1]? = some (.cells b.2.1 b.2.2 (0, 0)) := by
  obtain ⟨f, g, h⟩ := h
  exact (h.box b hb).1
theorem EE.start {x y : Nat} {r r' : Src} {w w1 w2 : World} (h : ENew x (X0 r) w w1) (k : ENew y (X0 r') w1 w2) : EE w.heap.size x y w (X0 r) (fun _ => noMk) (X0 r') (fun _ => noMk) [] w2 := by
  obtain ⟨f, a, n, s, r1⟩ := h
  obtain ⟨g, b, m, t, r2⟩ := k
  have hf := PEngE.within _ _ _ a
  refine ⟨f, g, PEngE.framed _ _ _ a r2 (by simp), b, ?_, fun q hq => ?_, (r1.trans r2).below (Nat.le_refl _) (by simp), (r1.trans r2).size, fun b hb => by cases hb⟩
  · rw [List.nodup_append]
    refine ⟨n, m, fun a ha b hb e => ?_⟩
    subst e
    have h1 := hf a ha
    have h2 := t a hb
    omega
  · rcases List.mem_append.mp hq with hq | hq
    · exact s q hq
    · exact Nat.le_trans r1.size (t q hq)
theorem EE.below {base x y : Nat} {Bx : Boxes} {w wr : World} {X Y : PEng} {F G : Mks} (h : EE base x y w X F Y G Bx wr) : Below base w wr := by
  obtain ⟨_, _, h⟩ := h
  exact h.below
theorem EE.room {base x y : Nat} {Bx : Boxes} {w wr : World} {X Y : PEng} {F G : Mks} (h : EE base x y w X F Y G Bx wr) : base ≤ wr.heap.size := by
  obtain ⟨_, _, h⟩ := h
  exact h.room
theorem EE.nds {base x y : Nat} {Bx : Boxes} {w wr : World} {X Y : PEng} {F G : Mks} {f g : List Nat} (h : E2 base x y w wr X F Y G Bx f g) : f.Nodup ∧ g.Nodup := by
  have := h.nd
  rw [List.nodup_append] at this
  exact ⟨this.1, this.2.1⟩
theorem EE.act1 {base x y : Nat} {Bx : Boxes} {w wr : World} {X Y : PEng} {F G : Mks} (h : EE base x y w X F Y G Bx wr) {i : Nat} (hg : Fit i X) (hi : i ≤ 100000000000000) (hR : RulesP X.src.2.1 X.src.2.2) (kd b c : Int) (s : ByteArray) (hs63 : s.size < 9223372036854775808) :
    Calls Try.prog 16 #[.pointer (some ⟨x, 0, none⟩), actV kd b c s] wr fun e w' => e = .returned (ansV (pact X F kd b c s).1.1 (pact X F kd b c s).1.2.1 (pact X F kd b c s).1.2.2.1 (pact X F kd b c s).1.2.2.2) ∧ EE base x y w (pact X F kd b c s).2.1 (pact X F kd b c s).2.2 Y G Bx w' := by
  obtain ⟨f, g, h⟩ := h
  refine (eact x X F f i kd b c s wr h.one (EE.nds h).1 hg hi hR hs63).mono ?_
  rintro e w' ⟨rfl, ht⟩
  exact ⟨rfl, h.step1 ht⟩
theorem EE.act2 {base x y : Nat} {Bx : Boxes} {w wr : World} {X Y : PEng} {F G : Mks} (h : EE base x y w X F Y G Bx wr) {i : Nat} (hg : Fit i Y) (hi : i ≤ 100000000000000) (hR : RulesP Y.src.2.1 Y.src.2.2) (kd b c : Int) (s : ByteArray) (hs63 : s.size < 9223372036854775808) :
    Calls Try.prog 16 #[.pointer (some ⟨y, 0, none⟩), actV kd b c s] wr fun e w' => e = .returned (ansV (pact Y G kd b c s).1.1 (pact Y G kd b c s).1.2.1 (pact Y G kd b c s).1.2.2.1 (pact Y G kd b c s).1.2.2.2) ∧ EE base x y w X F (pact Y G kd b c s).2.1 (pact Y G kd b c s).2.2 Bx w' := by
  obtain ⟨f, g, h⟩ := h
  refine (eact y Y G g i kd b c s wr h.two (EE.nds h).2 hg hi hR hs63).mono ?_
  rintro e w' ⟨rfl, ht⟩
  exact ⟨rfl, h.step2 ht⟩
theorem EE.run1 {base x y : Nat} {Bx : Boxes} {w wr : World} {X Y : PEng} {F G : Mks} (h : EE base x y w X F Y G Bx wr) {i : Nat} (hg : Fit i X) (hi : i ≤ 100000000000000) (hR : RulesP X.src.2.1 X.src.2.2) (n c : Int) :
    Calls Try.prog 19 #[.pointer (some ⟨x, 0, none⟩), .int .i64 n, .int .i64 c] wr fun e w' => e = .returned (.tuple #[.int .i64 (prunE X F n c).1.1, .int .i64 (prunE X F n c).1.2.1, .int .i64 (prunE X F n c).1.2.2]) ∧ EE base x y w (prunE X F n c).2.1 (prunE X F n c).2.2 Y G Bx w' := by
  obtain ⟨f, g, h⟩ := h
  refine (erun_to x X F f i n c wr h.one (EE.nds h).1 hg hi hR).mono ?_
  rintro e w' ⟨rfl, ht⟩
  exact ⟨rfl, h.step1 ht⟩
theorem EE.run2 {base x y : Nat} {Bx : Boxes} {w wr : World} {X Y : PEng} {F G : Mks} (h : EE base x y w X F Y G Bx wr) {i : Nat} (hg : Fit i Y) (hi : i ≤ 100000000000000) (hR : RulesP Y.src.2.1 Y.src.2.2) (n c : Int) :
    Calls Try.prog 19 #[.pointer (some ⟨y, 0, none⟩), .int .i64 n, .int .i64 c] wr fun e w' => e = .returned (.tuple #[.int .i64 (prunE Y G n c).1.1, .int .i64 (prunE Y G n c).1.2.1, .int .i64 (prunE Y G n c).1.2.2]) ∧ EE base x y w X F (prunE Y G n c).2.1 (prunE Y G n c).2.2 Bx w' := by
  obtain ⟨f, g, h⟩ := h
  refine (erun_to y Y G g i n c wr h.two (EE.nds h).2 hg hi hR).mono ?_
  rintro e w' ⟨rfl, ht⟩
  exact ⟨rfl, h.step2 ht⟩

/-- Two engines of one text: both are there, or none is. -/
theorem two_read {s : ByteArray} {room : Int} {r r' : Src} (h1 : r.1.2 = room) (h2 : r.2.1 = s) (h3 : ReadAns s 0 0 (some r.2.2)) (h4 : r.1.1 = .bool false) (k1 : r'.1.2 = room) (k2 : r'.2.1 = s) (k3 : ReadAns s 0 0 (some r'.2.2)) (k4 : r'.1.1 = .bool false) : r' = r := by
  obtain ⟨⟨a, b⟩, c, d⟩ := r
  obtain ⟨⟨a', b'⟩, c', d'⟩ := r'
  simp only at h1 h2 h3 h4 k1 k2 k3 k4
  have := h3.same k3
  rw [h1, h2, h4, k1, k2, k4, this]

end Go.Proofs.Ythlhbjnkohinmaa

/- Answers compared. -/
namespace Go.Proofs.Ythlhbjnkohinmaa
open Go.RowKit

theorem ans_guard (W : World) (op : BinOp) (x y : Operand) (xs ys : Array Value) : (eqGuard op 44 x y (.agg xs) (.agg ys)).run Try.prog W = .ok () W := run_eqGuard_agg W op _ x y xs ys (by kernel_rfl)
set_option maxRecDepth 20000 in
theorem ans_in (W : World) (s : ByteArray) (n m e : Int) : (Op.equalIn 10000 44 (.agg #[.string s, .int .i64 n, .int .i64 m, .int .i64 e]) (.agg #[.string s, .int .i64 n, .int .i64 m, .int .i64 e])).run Try.prog W = .ok true W := by
  rw [run_equalIn_agg W 9999 _ _ _ (by kernel_rfl) (by kernel_rfl)]
  unfold Program.fieldsOf
  rw [Try.underlying44]
  simp only []
  go_simp
theorem ans_neq (W : World) (s : ByteArray) (n m e : Int) : (binOp .neq 44 (.agg #[.string s, .int .i64 n, .int .i64 m, .int .i64 e]) (.agg #[.string s, .int .i64 n, .int .i64 m, .int .i64 e])).run Try.prog W = .ok (.bool false) W := by
  rw [run_neq_struct, ans_in]
  rfl
theorem ans_eql (W : World) (s : ByteArray) (n m e : Int) : (binOp .eql 44 (.agg #[.string s, .int .i64 n, .int .i64 m, .int .i64 e]) (.agg #[.string s, .int .i64 n, .int .i64 m, .int .i64 e])).run Try.prog W = .ok (.bool true) W := by
  rw [run_eql_struct, ans_in]
  rfl

end Go.Proofs.Ythlhbjnkohinmaa

/- Two engines in the statements' loops: more calls. -/
namespace Go.Proofs.Ythlhbjnkohinmaa
open Go.RowKit

/-- What is known of numbers that came in. -/
def IsInts (w : World) (a : Option Addr) (len : Nat) : Prop := len = 0 ∨ ∃ sb off, a = some ⟨sb, off, none⟩ ∧ sb < w.heap.size ∧ ∀ t, t < len → ∃ n, w.cell? ⟨sb, off + t, none⟩ = some (.int .i64 n) ∧ -9223372036854775808 ≤ n ∧ n ≤ 9223372036854775807
theorem box4 {W : World} {b : Nat} {u0 u1 u2 u3 : Value} {t : TypeId} (h : W.heap[b]? = some (.cells #[u0, u1, u2, u3] t (0, 0))) : W.cell? ⟨b, 0, none⟩ = some u0 ∧ W.cell? ⟨b, 1, none⟩ = some u1 ∧ W.cell? ⟨b, 2, none⟩ = some u2 ∧ W.cell? ⟨b, 3, none⟩ = some u3 := by
  refine ⟨?_, ?_, ?_, ?_⟩ <;> (rw [cell_of_row _ _ _ _ _ _ h]; rfl)
theorem nextF_same {X X' : PEng} (h : X'.ses = X.ses) (F : Mks) : nextF X X' F = F := by
  funext k
  unfold nextF
  rw [h, if_pos rfl]
theorem EE.sweep1 {base x y : Nat} {Bx : Boxes} {w wr : World} {X Y : PEng} {F G : Mks} (h : EE base x y w X F Y G Bx wr) {i : Nat} (hg : Fit i X) (hi : i ≤ 100000000000000) :
    Calls Try.prog 24 #[.pointer (some ⟨x, 0, none⟩)] wr fun e w' => e = .returned (.int .i64 (psweepF X).1) ∧ EE base x y w (psweepF X).2 F Y G Bx w' := by
  obtain ⟨f, g, h⟩ := h
  refine (esweep_to x X F f i wr h.one (EE.nds h).1 hg hi).mono ?_
  rintro e w' ⟨rfl, ht⟩
  rw [nextF_same (X := X) (X' := (psweepF X).2) rfl] at ht
  exact ⟨rfl, h.step1 ht⟩
theorem EE.keep1 {base x y : Nat} {Bx : Boxes} {w wr : World} {X Y : PEng} {F G : Mks} (h : EE base x y w X F Y G Bx wr) {i : Nat} (hg : Fit i X) (hi : i ≤ 100000000000000) :
    Calls Try.prog 25 #[.pointer (some ⟨x, 0, none⟩)] wr fun e w' => e = .returned (.int .i64 (keptN X 60 : Nat)) ∧ EE base x y w X F Y G Bx w' := by
  obtain ⟨f, g, h⟩ := h
  refine (ekept_to x X F f i wr h.one (EE.nds h).1 hg hi).mono ?_
  rintro e w' ⟨rfl, ht⟩
  exact ⟨rfl, h.step1 ht⟩
theorem EE.sweep2 {base x y : Nat} {Bx : Boxes} {w wr : World} {X Y : PEng} {F G : Mks} (h : EE base x y w X F Y G Bx wr) {i : Nat} (hg : Fit i Y) (hi : i ≤ 100000000000000) :
    Calls Try.prog 24 #[.pointer (some ⟨y, 0, none⟩)] wr fun e w' => e = .returned (.int .i64 (psweepF Y).1) ∧ EE base x y w X F (psweepF Y).2 G Bx w' := by
  obtain ⟨f, g, h⟩ := h
  refine (esweep_to y Y G g i wr h.two (EE.nds h).2 hg hi).mono ?_
  rintro e w' ⟨rfl, ht⟩
  rw [nextF_same (X := Y) (X' := (psweepF Y).2) rfl] at ht
  exact ⟨rfl, h.step2 ht⟩
theorem EE.keep2 {base x y : Nat} {Bx : Boxes} {w wr : World} {X Y : PEng} {F G : Mks} (h : EE base x y w X F Y G Bx wr) {i : Nat} (hg : Fit i Y) (hi : i ≤ 100000000000000) :
    Calls Try.prog 25 #[.pointer (some ⟨y, 0, none⟩)] wr fun e w' => e = .returned (.int .i64 (keptN Y 60 : Nat)) ∧ EE base x y w X F Y G Bx w' := by
  obtain ⟨f, g, h⟩ := h
  refine (ekept_to y Y G g i wr h.two (EE.nds h).2 hg hi).mono ?_
  rintro e w' ⟨rfl, ht⟩
  exact ⟨rfl, h.step2 ht⟩

end Go.Proofs.Ythlhbjnkohinmaa

/- What the statement Aborted counts, in memory. -/
namespace Go.Proofs.Ythlhbjnkohinmaa
open Go.RowKit

def ManyTo (kd o cm : Int) (W : World) (e : Ending) (w' : World) : Prop := ∃ r, e = .returned (.bool r) ∧ (r = true ↔ manyB kd o cm) ∧ Fr [] W w'
theorem manyTo_true {kd o cm : Int} {W w' : World} (h : manyB kd o cm) (hf : Fr [] W w') : ManyTo kd o cm W (.returned (.bool true)) w' := ⟨true, rfl, ⟨fun _ => h, fun _ => rfl⟩, hf⟩
theorem manyTo_false {kd o cm : Int} {W w' : World} (h : ¬ manyB kd o cm) (hf : Fr [] W w') : ManyTo kd o cm W (.returned (.bool false)) w' := ⟨false, rfl, ⟨fun e => (by cases e), fun e => absurd e h⟩, hf⟩
set_option maxRecDepth 20000 in
set_option maxHeartbeats 1000000 in
theorem omany_any (ob : Nat) (kd b c : Int) (s : ByteArray) (o cm : Int) (W : World) (hb : W.heap[ob]? = some (.cells #[.int .i64 o, .int .i64 cm] 55 (0, 0))) :
    Calls Try.prog 21 #[.pointer (some ⟨ob, 0, none⟩), actV kd b c s] W fun e w' => ManyTo kd o cm W e w' := by
  have hlt := lt_of_block hb
  have hne : ob ≠ W.heap.size := by omega
  have k0 : W.cell? ⟨ob, 0, none⟩ = some (.int .i64 o) := by rw [cell_of_row _ _ _ _ _ _ hb]; rfl
  have k1 : W.cell? ⟨ob, 1, none⟩ = some (.int .i64 cm) := by rw [cell_of_row _ _ _ _ _ _ hb]; rfl
  have HF := hid (fr_alloc W (.cells #[.int .i64 kd, .int .i64 b, .int .i64 c, .string s] 33))
  clear hb
  by_cases e1 : kd = 1
  · subst e1
    by_cases h7 : o ≥ 7
    · have HM : Hid (manyB 1 o cm) := hid (.inl ⟨rfl, h7⟩)
      go_enter Try.func21, Try.ntmps21
      go_wp2_with fail
      go_ret
      exact manyTo_true HM.out HF.out
    · have HM : Hid (¬ manyB 1 o cm) := hid (fun h => by unfold manyB at h; omega)
      go_enter Try.func21, Try.ntmps21
      go_wp2_with fail
      go_ret
      exact manyTo_false HM.out HF.out
  by_cases e6 : kd = 6
  · subst e6
    by_cases h7 : cm ≥ 15
    · have HM : Hid (manyB 6 o cm) := hid (.inr ⟨rfl, h7⟩)
      go_enter Try.func21, Try.ntmps21
      go_wp2_with fail
      go_ret
      exact manyTo_true HM.out HF.out
    · have HM : Hid (¬ manyB 6 o cm) := hid (fun h => by unfold manyB at h; omega)
      go_enter Try.func21, Try.ntmps21
      go_wp2_with fail
      go_ret
      exact manyTo_false HM.out HF.out
  · have HM : Hid (¬ manyB kd o cm) := hid (fun h => by unfold manyB at h; omega)
    go_enter Try.func21, Try.ntmps21
    go_wp2_with fail
    go_ret
    exact manyTo_false HM.out HF.out

def NoteTo (ob : Nat) (q : Int × Int) (W w' : World) : Prop := w'.heap[ob]? = some (.cells #[.int .i64 q.1, .int .i64 q.2] 55 (0, 0)) ∧ Fr [ob] W w'
theorem noteTo_none {ob : Nat} {o cm : Int} {W : World} (h : W.heap[ob]? = some (.cells #[.int .i64 o, .int .i64 cm] 55 (0, 0))) (A B : Obj) : NoteTo ob (o, cm) W ((W.alloc A).alloc B) :=
  ⟨(Below.heap_alloc _ _ _ (Nat.lt_of_lt_of_le (lt_of_block h) (fr_alloc W A).size)).trans ((Below.heap_alloc _ _ _ (lt_of_block h)).trans h), ((Fr.refl [ob] W).alloc A).alloc B⟩
theorem noteTo_one {ob : Nat} {o cm : Int} {W : World} (h : W.heap[ob]? = some (.cells #[.int .i64 o, .int .i64 cm] 55 (0, 0))) (A B : Obj) (v : Int) : NoteTo ob (v, cm) W (((W.setCell ⟨ob, 0, none⟩ (.int .i64 v)).alloc A).alloc B) := by
  have h1 := blk_setCell h 0 (.int .i64 v)
  obtain ⟨q1, q2⟩ := noteTo_none (o := v) (cm := cm) h1 A B
  exact ⟨q1, ((Fr.refl [ob] W).set (.inl (by simp)) _).trans q2⟩
theorem noteTo_two {ob : Nat} {o cm : Int} {W : World} (h : W.heap[ob]? = some (.cells #[.int .i64 o, .int .i64 cm] 55 (0, 0))) (A B : Obj) (v u : Int) : NoteTo ob (v, u) W ((((W.setCell ⟨ob, 0, none⟩ (.int .i64 v)).setCell ⟨ob, 1, none⟩ (.int .i64 u)).alloc A).alloc B) := by
  have h1 := blk_setCell (blk_setCell h 0 (.int .i64 v)) 1 (.int .i64 u)
  obtain ⟨q1, q2⟩ := noteTo_none (o := v) (cm := u) h1 A B
  exact ⟨q1, (((Fr.refl [ob] W).set (.inl (by simp)) _).set (.inl (by simp)) _).trans q2⟩
set_option maxRecDepth 20000 in
set_option maxHeartbeats 1000000 in
theorem onote_any (ob : Nat) (kd b c : Int) (s s' : ByteArray) (n m e o cm : Int) (W : World) (hb : W.heap[ob]? = some (.cells #[.int .i64 o, .int .i64 cm] 55 (0, 0))) (ho : 0 ≤ o ∧ o ≤ 7) (hc : 0 ≤ cm ∧ cm ≤ 15) :
    Calls Try.prog 22 #[.pointer (some ⟨ob, 0, none⟩), actV kd b c s, ansV s' n m e] W fun e' w' => e' = .returned (.tuple #[]) ∧ NoteTo ob (noteN kd n e o cm) W w' := by
  have hlt := lt_of_block hb
  have hne : ob ≠ W.heap.size := by omega
  have hne2 : ob ≠ W.heap.size + 1 := by omega
  have k0 : W.cell? ⟨ob, 0, none⟩ = some (.int .i64 o) := by rw [cell_of_row _ _ _ _ _ _ hb]; rfl
  have k1 : W.cell? ⟨ob, 1, none⟩ = some (.int .i64 cm) := by rw [cell_of_row _ _ _ _ _ _ hb]; rfl
  have z0 := frozen_blk hb
  have HB := hid hb
  clear hb
  by_cases e1 : kd = 1 ∧ e = 0
  · obtain ⟨rfl, rfl⟩ := e1
    have HN : Hid (noteN 1 n 0 o cm = (o + 1, cm)) := hid rfl
    go_enter Try.func22, Try.ntmps22
    go_wp2_with fail
    go_returns
    refine ⟨rfl, ?_⟩
    rw [HN.out]
    exact noteTo_one HB.out _ _ _
  by_cases e5 : kd = 5 ∧ e = 0
  · obtain ⟨rfl, rfl⟩ := e5
    have HN : Hid (noteN 5 n 0 o cm = (o - 1, cm)) := hid rfl
    go_enter Try.func22, Try.ntmps22
    go_wp2_with fail
    go_returns
    refine ⟨rfl, ?_⟩
    rw [HN.out]
    exact noteTo_one HB.out _ _ _
  by_cases e6 : kd = 6 ∧ (e = 0 ∨ e = 10)
  · obtain ⟨rfl, e6⟩ := e6
    by_cases hn : 0 < n
    · have HN : Hid (noteN 6 n e o cm = (o - 1, cm + 1)) := hid (by unfold noteN; rw [if_neg (by omega), if_neg (by omega), if_pos ⟨rfl, e6⟩, if_pos hn])
      rcases e6 with rfl | rfl
      · go_enter Try.func22, Try.ntmps22
        go_wp2_with fail
        go_returns
        refine ⟨rfl, ?_⟩
        rw [HN.out]
        exact noteTo_two HB.out _ _ _ _
      · go_enter Try.func22, Try.ntmps22
        go_wp2_with fail
        go_returns
        refine ⟨rfl, ?_⟩
        rw [HN.out]
        exact noteTo_two HB.out _ _ _ _
    · have HN : Hid (noteN 6 n e o cm = (o - 1, cm)) := hid (by unfold noteN; rw [if_neg (by omega), if_neg (by omega), if_pos ⟨rfl, e6⟩, if_neg hn])
      rcases e6 with rfl | rfl
      · go_enter Try.func22, Try.ntmps22
        go_wp2_with fail
        go_returns
        refine ⟨rfl, ?_⟩
        rw [HN.out]
        exact noteTo_one HB.out _ _ _
      · go_enter Try.func22, Try.ntmps22
        go_wp2_with fail
        go_returns
        refine ⟨rfl, ?_⟩
        rw [HN.out]
        exact noteTo_one HB.out _ _ _
  have HN : Hid (noteN kd n e o cm = (o, cm)) := hid (by unfold noteN; rw [if_neg e1, if_neg e5, if_neg e6])
  by_cases k1' : kd = 1
  · subst k1'
    have q : e ≠ 0 := fun q => e1 ⟨rfl, q⟩
    clear e1 e5 e6
    go_enter Try.func22, Try.ntmps22
    go_wp2_with fail
    go_returns
    refine ⟨rfl, ?_⟩
    rw [HN.out]
    exact noteTo_none HB.out _ _
  by_cases k5' : kd = 5
  · subst k5'
    have q : e ≠ 0 := fun q => e5 ⟨rfl, q⟩
    clear e1 e5 e6
    go_enter Try.func22, Try.ntmps22
    go_wp2_with fail
    go_returns
    refine ⟨rfl, ?_⟩
    rw [HN.out]
    exact noteTo_none HB.out _ _
  by_cases k6' : kd = 6
  · subst k6'
    have q : e ≠ 0 := fun q => e6 ⟨rfl, .inl q⟩
    have q' : e ≠ 10 := fun q => e6 ⟨rfl, .inr q⟩
    have qb : (e == 0) = false := by simpa using q
    have qb' : (e == 10) = false := by simpa using q'
    clear e1 e5 e6
    go_enter Try.func22, Try.ntmps22
    go_wp2_with fail
    go_returns
    refine ⟨rfl, ?_⟩
    rw [HN.out]
    exact noteTo_none HB.out _ _
  · clear e1 e5 e6
    go_enter Try.func22, Try.ntmps22
    go_wp2_with fail
    go_returns
    refine ⟨rfl, ?_⟩
    rw [HN.out]
    exact noteTo_none HB.out _ _

/-- A box changed. -/
theorem EE.rebox {base x y ob : Nat} {t : TypeId} {cs cs' : Array Value} {Bx : Boxes} {w wr wr' : World} {X Y : PEng} {F G : Mks} (h : EE base x y w X F Y G ((ob, cs, t) :: Bx) wr) (hb : base ≤ ob) (hno : ∀ b ∈ Bx, b.1 ≠ ob) (hr : Fr [ob] wr wr') (hn : wr'.heap[ob]? = some (.cells cs' t (0, 0))) : EE base x y w X F Y G ((ob, cs', t) :: Bx) wr' := by
  obtain ⟨f, g, k⟩ := h
  obtain ⟨_, hnf⟩ := k.box (ob, cs, t) (by simp)
  simp only [List.mem_append, not_or] at hnf
  refine ⟨f, g, PEngE.framed _ _ _ k.one hr (fun q hq hf => ?_), PEngE.framed _ _ _ k.two hr (fun q hq hf => ?_), k.nd, k.above, k.below.trans (hr.below k.room (fun q hq => ?_)), Nat.le_trans k.room hr.size, fun b hb' => ?_⟩
  · rw [List.mem_singleton] at hf
    subst hf
    exact hnf.1 hq
  · rw [List.mem_singleton] at hf
    subst hf
    exact hnf.2 hq
  · rw [List.mem_singleton] at hq
    subst hq
    exact hb
  · rcases List.mem_cons.mp hb' with e | e
    · subst e
      exact ⟨hn, by simp only [List.mem_append, not_or]; exact hnf⟩
    · obtain ⟨q1, q2⟩ := k.box b (List.mem_cons_of_mem _ e)
      refine ⟨(hr.block _ (lt_of_block q1) (fun c => ?_)).trans q1, q2⟩
      rw [List.mem_singleton] at c
      exact hno b e c
theorem EE.open2 {base x y : Nat} {Bx : Boxes} {w wr : World} {X Y : PEng} {F G : Mks} (h : EE base x y w X F Y G Bx wr) {i : Nat} (hg : Fit i Y) (hi : i ≤ 100000000000000) :
    Calls Try.prog 13 #[.pointer (some ⟨y, 0, none⟩)] wr fun e w' => e = .returned (.tuple #[.int .i64 (popenF Y).1.1, .int .i64 (popenF Y).1.2]) ∧ EE base x y w X F (popenF Y).2 (nextF Y (popenF Y).2 G) Bx w' := by
  obtain ⟨f, g, h⟩ := h
  refine (eopen_to y Y G g i wr h.two (EE.nds h).2 hg hi).mono ?_
  rintro e w' ⟨rfl, ht⟩
  exact ⟨rfl, h.step2 ht⟩
theorem EE.abort2 {base x y : Nat} {Bx : Boxes} {w wr : World} {X Y : PEng} {F G : Mks} (h : EE base x y w X F Y G Bx wr) (n : Int) :
    Calls Try.prog 23 #[.pointer (some ⟨y, 0, none⟩), .int .i64 n] wr fun e w' => e = .returned (.int .i64 (pabortF Y n).1) ∧ EE base x y w X F (pabortF Y n).2 (nextF Y (pabortF Y n).2 G) Bx w' := by
  obtain ⟨f, g, h⟩ := h
  refine (eabort_to y Y G g n wr h.two (EE.nds h).2).mono ?_
  rintro e w' ⟨rfl, ht⟩
  exact ⟨rfl, h.step2 ht⟩

end Go.Proofs.Ythlhbjnkohinmaa
