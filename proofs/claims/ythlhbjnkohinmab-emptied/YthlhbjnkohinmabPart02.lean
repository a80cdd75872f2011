import Derived.Test.YthlhbjnkohinmabPart01
import Derived.Test.YthlhbjnkohinmabRead
import Derived.Test.YthlhbjnkohinmabPmem
/- Plain data that the program and the document share, where there is no document. -/
namespace Go.Proofs.Ythlhbjnkohinmab
open Go.RowKit

theorem cls_kind {s : ByteArray} {p : Nat} (_h : cdOk s p = true) : (cdV s p).k = 1 ↔ clsB (bt s p) = true := by
  unfold cdV
  by_cases h33 : bt s p = 33
  · simp only [h33, if_true, patV]
    constructor
    · intro h; omega
    · intro h; exact absurd h (by decide)
  · by_cases hc : clsB (bt s p) = true
    · simp [h33, hc, patV]
    · simp [h33, hc, tstV]
def wgt (s : ByteArray) (R : List RuleP) (r : Nat) : Int := bt s (R.getD r (0, [], [])).1 - 48
theorem own_cap {w : World} {base : Nat} {e : TypeId} {size : Nat} {a : Option Addr} {m c n : Nat} {xs : List Value} (h : w.ownsRow base e size (.slice a m c) n xs) : n ≤ c := by
  rcases h.2 with ⟨hv, h0⟩ | ⟨g, cap, cur, hv, hb, hh, hn, _⟩
  · omega
  · cases hv; exact hn
def factsT (l : List PFact) : ByteArray := joined (l.map fun q => factP q.1 q.2.1)
theorem factsT_size (l : List PFact) : (factsT l).size = 3 * l.length := joined_facts_size l
def writT (i : In) : ByteArray := strOfNums [48 + (i.rule : Int)] ++ factsT i.facts
theorem writT_size {i : In} (h : i.facts.length ≤ 100) : (writT i).size ≤ 301 := by
  unfold writT
  rw [ByteArray.size_append, factsT_size]
  have : (strOfNums [48 + (i.rule : Int)]).size = 1 := rfl
  omega
def tellT (i : In) : ByteArray := writT i ++ ⟨#[59]⟩
def toldT (l : List In) : ByteArray := joined (l.map tellT)
theorem toldT_take (l : List In) (j : Nat) (hj : j < l.length) : toldT (l.take (j + 1)) = toldT (l.take j) ++ writT l[j] ++ ⟨#[59]⟩ := by
  unfold toldT
  rw [List.take_succ_eq_append_getElem hj, List.map_append]
  show joined (_ ++ [tellT l[j]]) = _
  rw [joined_snoc, ByteArray.append_assoc]
  rfl
theorem toldT_size : ∀ (l : List In), (∀ i ∈ l, i.facts.length ≤ 100) → (toldT l).size ≤ 302 * l.length := by
  intro l
  have key : ∀ (l : List In) (z : ByteArray), (∀ i ∈ l, i.facts.length ≤ 100) → ((l.map tellT).foldl (· ++ ·) z).size ≤ z.size + 302 * l.length := by
    intro l
    induction l with
    | nil => intro z _; simp
    | cons i l ih =>
      intro z h
      have h1 := ih (z ++ tellT i) (fun j hj => h j (by simp [hj]))
      have h2 := writT_size (h i (by simp))
      rw [List.map_cons, List.foldl_cons]
      have h3 : (tellT i).size = (writT i).size + 1 := by unfold tellT; rw [ByteArray.size_append]; rfl
      rw [ByteArray.size_append, h3] at h1
      simp only [List.length_cons]
      omega
  intro h
  have := key l ByteArray.empty h
  unfold toldT joined
  simpa using this

end Go.Proofs.Ythlhbjnkohinmab

/- The program's variables: a term and a digit. -/
namespace Go.Proofs.Ythlhbjnkohinmab
open Go.RowKit

theorem pblk_at {w : World} {o : Obj} {n : Nat} (h : n = w.heap.size) : (w.alloc o).heap[n]? = some o := by subst h; exact heap_alloc_new w o
/-- The variables, as the program keeps them. -/
def dI (e : Env) (n : Nat) : Int := (e n).getD 0
def dB (e : Env) (n : Nat) : Bool := (e n).isSome
def digV (e : Env) : Value := .agg #[.bool (dB e 0), .bool (dB e 1), .bool (dB e 2), .bool (dB e 3), .int .i64 (dI e 0), .int .i64 (dI e 1), .int .i64 (dI e 2), .int .i64 (dI e 3)]
/-- Three blocks more, and some draws. -/
def Boxed (w w' : World) : Prop := ∃ o1 o2 o3 n, w' = (((w.alloc o1).alloc o2).alloc o3).drewN n
theorem Boxed.grown {w w' : World} (h : Boxed w w') : w.grownBy w' none := by
  obtain ⟨o1, o2, o3, n, rfl⟩ := h
  exact grown_drewN (grown_alloc (grown_alloc (grown_alloc (grown_refl _ _) _) _) _) n
theorem dI_upd (e : Env) (n : Nat) (d : Int) (j : Nat) : dI (upd e n (some d)) j = if j = n then d else dI e j := by
  unfold dI upd
  split <;> rfl
theorem dB_upd (e : Env) (n : Nat) (d : Int) (j : Nat) : dB (upd e n (some d)) j = if j = n then true else dB e j := by
  unfold dB upd
  split <;> rfl

set_option maxRecDepth 20000 in
set_option maxHeartbeats 2000000 in
theorem pwith_blank (b0 b1 b2 b3 : Bool) (d0 d1 d2 d3 v x : Int) (w : World) :
    Calls Try.prog 90 #[.agg #[.bool b0, .bool b1, .bool b2, .bool b3, .int .i64 d0, .int .i64 d1, .int .i64 d2, .int .i64 d3], .agg #[.int .i64 0, .int .i64 v], .int .i64 x] w fun r w' => r = .returned (.tuple #[.agg #[.bool b0, .bool b1, .bool b2, .bool b3, .int .i64 d0, .int .i64 d1, .int .i64 d2, .int .i64 d3], .bool true]) ∧ Boxed w w' := by
  go_enter Try.func90, Try.ntmps90
  go_wp2_with fail
  refine bodyPost_ret (res_ct Try.results90 rfl (pblk_at (by simp)) Try.underlying117 rfl (by kernel_rfl) rfl) rfl ⟨rfl, ?_⟩
  exact ⟨_, _, _, 0, rfl⟩
set_option maxRecDepth 20000 in
set_option maxHeartbeats 2000000 in
theorem pwith_dig (b0 b1 b2 b3 : Bool) (d0 d1 d2 d3 v x : Int) (w : World) :
    Calls Try.prog 90 #[.agg #[.bool b0, .bool b1, .bool b2, .bool b3, .int .i64 d0, .int .i64 d1, .int .i64 d2, .int .i64 d3], .agg #[.int .i64 1, .int .i64 v], .int .i64 x] w fun r w' => r = .returned (.tuple #[.agg #[.bool b0, .bool b1, .bool b2, .bool b3, .int .i64 d0, .int .i64 d1, .int .i64 d2, .int .i64 d3], .bool (v == x)]) ∧ Boxed w w' := by
  go_enter Try.func90, Try.ntmps90
  go_wp2_with fail
  go_region
  all_goals go_wp2_with fail
  all_goals (refine bodyPost_ret (res_ct Try.results90 rfl (pblk_at (by simp)) Try.underlying117 rfl (by kernel_rfl) rfl) rfl ⟨rfl, ?_⟩)
  all_goals first
    | exact ⟨_, _, _, 0, rfl⟩
    | exact ⟨_, _, _, 1, rfl⟩
set_option maxRecDepth 20000 in
set_option maxHeartbeats 2000000 in
theorem pwith_old0 (b0 b1 b2 b3 : Bool) (d0 d1 d2 d3 x : Int) (w : World) (hb : b0 = true) :
    Calls Try.prog 90 #[.agg #[.bool b0, .bool b1, .bool b2, .bool b3, .int .i64 d0, .int .i64 d1, .int .i64 d2, .int .i64 d3], .agg #[.int .i64 2, .int .i64 0], .int .i64 x] w fun r w' => r = .returned (.tuple #[.agg #[.bool b0, .bool b1, .bool b2, .bool b3, .int .i64 d0, .int .i64 d1, .int .i64 d2, .int .i64 d3], .bool (d0 == x)]) ∧ Boxed w w' := by
  subst hb
  go_enter Try.func90, Try.ntmps90
  go_wp2_with fail
  go_region
  all_goals go_wp2_with fail
  all_goals (refine bodyPost_ret (res_ct Try.results90 rfl (pblk_at (by simp)) Try.underlying117 rfl (by kernel_rfl) rfl) rfl ⟨rfl, ?_⟩)
  all_goals first
    | exact ⟨_, _, _, 0, rfl⟩
    | exact ⟨_, _, _, 1, rfl⟩
set_option maxRecDepth 20000 in
set_option maxHeartbeats 2000000 in
theorem pwith_new0 (b0 b1 b2 b3 : Bool) (d0 d1 d2 d3 x : Int) (w : World) (hb : b0 = false) :
    Calls Try.prog 90 #[.agg #[.bool b0, .bool b1, .bool b2, .bool b3, .int .i64 d0, .int .i64 d1, .int .i64 d2, .int .i64 d3], .agg #[.int .i64 2, .int .i64 0], .int .i64 x] w fun r w' => r = .returned (.tuple #[.agg #[.bool true, .bool b1, .bool b2, .bool b3, .int .i64 x, .int .i64 d1, .int .i64 d2, .int .i64 d3], .bool true]) ∧ Boxed w w' := by
  subst hb
  go_enter Try.func90, Try.ntmps90
  go_wp2_with fail
  refine bodyPost_ret (res_ct Try.results90 rfl (pblk_at (by simp)) Try.underlying117 rfl (by kernel_rfl) rfl) rfl ⟨rfl, ?_⟩
  exact ⟨_, _, _, 0, rfl⟩
set_option maxRecDepth 20000 in
set_option maxHeartbeats 2000000 in
theorem pwith_old1 (b0 b1 b2 b3 : Bool) (d0 d1 d2 d3 x : Int) (w : World) (hb : b1 = true) :
    Calls Try.prog 90 #[.agg #[.bool b0, .bool b1, .bool b2, .bool b3, .int .i64 d0, .int .i64 d1, .int .i64 d2, .int .i64 d3], .agg #[.int .i64 2, .int .i64 1], .int .i64 x] w fun r w' => r = .returned (.tuple #[.agg #[.bool b0, .bool b1, .bool b2, .bool b3, .int .i64 d0, .int .i64 d1, .int .i64 d2, .int .i64 d3], .bool (d1 == x)]) ∧ Boxed w w' := by
  subst hb
  go_enter Try.func90, Try.ntmps90
  go_wp2_with fail
  go_region
  all_goals go_wp2_with fail
  all_goals (refine bodyPost_ret (res_ct Try.results90 rfl (pblk_at (by simp)) Try.underlying117 rfl (by kernel_rfl) rfl) rfl ⟨rfl, ?_⟩)
  all_goals first
    | exact ⟨_, _, _, 0, rfl⟩
    | exact ⟨_, _, _, 1, rfl⟩
set_option maxRecDepth 20000 in
set_option maxHeartbeats 2000000 in
theorem pwith_new1 (b0 b1 b2 b3 : Bool) (d0 d1 d2 d3 x : Int) (w : World) (hb : b1 = false) :
    Calls Try.prog 90 #[.agg #[.bool b0, .bool b1, .bool b2, .bool b3, .int .i64 d0, .int .i64 d1, .int .i64 d2, .int .i64 d3], .agg #[.int .i64 2, .int .i64 1], .int .i64 x] w fun r w' => r = .returned (.tuple #[.agg #[.bool b0, .bool true, .bool b2, .bool b3, .int .i64 d0, .int .i64 x, .int .i64 d2, .int .i64 d3], .bool true]) ∧ Boxed w w' := by
  subst hb
  go_enter Try.func90, Try.ntmps90
  go_wp2_with fail
  refine bodyPost_ret (res_ct Try.results90 rfl (pblk_at (by simp)) Try.underlying117 rfl (by kernel_rfl) rfl) rfl ⟨rfl, ?_⟩
  exact ⟨_, _, _, 0, rfl⟩
set_option maxRecDepth 20000 in
set_option maxHeartbeats 2000000 in
theorem pwith_old2 (b0 b1 b2 b3 : Bool) (d0 d1 d2 d3 x : Int) (w : World) (hb : b2 = true) :
    Calls Try.prog 90 #[.agg #[.bool b0, .bool b1, .bool b2, .bool b3, .int .i64 d0, .int .i64 d1, .int .i64 d2, .int .i64 d3], .agg #[.int .i64 2, .int .i64 2], .int .i64 x] w fun r w' => r = .returned (.tuple #[.agg #[.bool b0, .bool b1, .bool b2, .bool b3, .int .i64 d0, .int .i64 d1, .int .i64 d2, .int .i64 d3], .bool (d2 == x)]) ∧ Boxed w w' := by
  subst hb
  go_enter Try.func90, Try.ntmps90
  go_wp2_with fail
  go_region
  all_goals go_wp2_with fail
  all_goals (refine bodyPost_ret (res_ct Try.results90 rfl (pblk_at (by simp)) Try.underlying117 rfl (by kernel_rfl) rfl) rfl ⟨rfl, ?_⟩)
  all_goals first
    | exact ⟨_, _, _, 0, rfl⟩
    | exact ⟨_, _, _, 1, rfl⟩
set_option maxRecDepth 20000 in
set_option maxHeartbeats 2000000 in
theorem pwith_new2 (b0 b1 b2 b3 : Bool) (d0 d1 d2 d3 x : Int) (w : World) (hb : b2 = false) :
    Calls Try.prog 90 #[.agg #[.bool b0, .bool b1, .bool b2, .bool b3, .int .i64 d0, .int .i64 d1, .int .i64 d2, .int .i64 d3], .agg #[.int .i64 2, .int .i64 2], .int .i64 x] w fun r w' => r = .returned (.tuple #[.agg #[.bool b0, .bool b1, .bool true, .bool b3, .int .i64 d0, .int .i64 d1, .int .i64 x, .int .i64 d3], .bool true]) ∧ Boxed w w' := by
  subst hb
  go_enter Try.func90, Try.ntmps90
  go_wp2_with fail
  refine bodyPost_ret (res_ct Try.results90 rfl (pblk_at (by simp)) Try.underlying117 rfl (by kernel_rfl) rfl) rfl ⟨rfl, ?_⟩
  exact ⟨_, _, _, 0, rfl⟩
set_option maxRecDepth 20000 in
set_option maxHeartbeats 2000000 in
theorem pwith_old3 (b0 b1 b2 b3 : Bool) (d0 d1 d2 d3 x : Int) (w : World) (hb : b3 = true) :
    Calls Try.prog 90 #[.agg #[.bool b0, .bool b1, .bool b2, .bool b3, .int .i64 d0, .int .i64 d1, .int .i64 d2, .int .i64 d3], .agg #[.int .i64 2, .int .i64 3], .int .i64 x] w fun r w' => r = .returned (.tuple #[.agg #[.bool b0, .bool b1, .bool b2, .bool b3, .int .i64 d0, .int .i64 d1, .int .i64 d2, .int .i64 d3], .bool (d3 == x)]) ∧ Boxed w w' := by
  subst hb
  go_enter Try.func90, Try.ntmps90
  go_wp2_with fail
  go_region
  all_goals go_wp2_with fail
  all_goals (refine bodyPost_ret (res_ct Try.results90 rfl (pblk_at (by simp)) Try.underlying117 rfl (by kernel_rfl) rfl) rfl ⟨rfl, ?_⟩)
  all_goals first
    | exact ⟨_, _, _, 0, rfl⟩
    | exact ⟨_, _, _, 1, rfl⟩
set_option maxRecDepth 20000 in
set_option maxHeartbeats 2000000 in
theorem pwith_new3 (b0 b1 b2 b3 : Bool) (d0 d1 d2 d3 x : Int) (w : World) (hb : b3 = false) :
    Calls Try.prog 90 #[.agg #[.bool b0, .bool b1, .bool b2, .bool b3, .int .i64 d0, .int .i64 d1, .int .i64 d2, .int .i64 d3], .agg #[.int .i64 2, .int .i64 3], .int .i64 x] w fun r w' => r = .returned (.tuple #[.agg #[.bool b0, .bool b1, .bool b2, .bool true, .int .i64 d0, .int .i64 d1, .int .i64 d2, .int .i64 x], .bool true]) ∧ Boxed w w' := by
  subst hb
  go_enter Try.func90, Try.ntmps90
  go_wp2_with fail
  refine bodyPost_ret (res_ct Try.results90 rfl (pblk_at (by simp)) Try.underlying117 rfl (by kernel_rfl) rfl) rfl ⟨rfl, ?_⟩
  exact ⟨_, _, _, 0, rfl⟩

/-- What with answers. -/
def pgoV (e : Env) (t d : Int) : Value := .tuple #[digV ((goT e t d).getD e), .bool (goT e t d).isSome]
theorem ter_cases {t : Int} (h : terB t = true) : t = 95 ∨ digB t = true ∨ t = 119 ∨ t = 120 ∨ t = 121 ∨ t = 122 := by
  by_cases h1 : t = 95
  · exact .inl h1
  · have h2 : simB t = true := by simpa [terB, h1] using h
    cases hd : digB t with
    | true => exact .inr (.inl rfl)
    | false =>
      have hl : letB t = true := by simpa [simB, hd] using h2
      simp only [letB, decide_eq_true_eq] at hl
      right; right; omega
theorem pwith_any (e : Env) (t d : Int) (w : World) (ht : terB t = true) :
    Calls Try.prog 90 #[digV e, .agg #[.int .i64 (opK t), .int .i64 (opV t)], .int .i64 d] w fun r w' => r = .returned (pgoV e t d) ∧ Boxed w w' := by
  rcases ter_cases ht with rfl | hd | hl
  · have e1 : pgoV e 95 d = .tuple #[digV e, .bool true] := by simp [pgoV, goT]
    rw [e1]
    exact pwith_blank _ _ _ _ _ _ _ _ _ d w
  · have k1 : opK t = 1 := by simp [opK, hd]
    have k2 : opV t = t - 48 := by simp [opV, hd]
    have h95 : ¬ t = 95 := by rintro rfl; exact absurd hd (by decide)
    have e1 : pgoV e t d = .tuple #[digV e, .bool (t - 48 == d)] := by
      unfold pgoV goT
      rw [if_neg h95, if_pos hd]
      by_cases hvd : t - 48 = d
      · rw [if_pos hvd]; simp [hvd]
      · rw [if_neg hvd]; simp [hvd]
    rw [k1, k2, e1]
    exact pwith_dig _ _ _ _ _ _ _ _ _ d w
  · have hnd : digB t = false := by rcases hl with rfl | rfl | rfl | rfl <;> rfl
    have h95 : ¬ t = 95 := by omega
    have k1 : opK t = 2 := by rcases hl with rfl | rfl | rfl | rfl <;> rfl
    cases hen : e (t - 119).toNat with
    | some v =>
      have e1 : pgoV e t d = .tuple #[digV e, .bool (dI e (t - 119).toNat == d)] := by
        have hv : dI e (t - 119).toNat = v := by unfold dI; rw [hen]; rfl
        rw [hv]
        unfold pgoV goT
        rw [if_neg h95, if_neg (by simp [hnd])]
        simp only [hen]
        by_cases hvd : v = d
        · rw [if_pos hvd]; simp [hvd]
        · rw [if_neg hvd]; simp [hvd]
      have hb : dB e (t - 119).toNat = true := by unfold dB; rw [hen]; rfl
      rw [k1, e1]
      rcases hl with rfl | rfl | rfl | rfl
      · exact pwith_old0 _ _ _ _ _ _ _ _ d w hb
      · exact pwith_old1 _ _ _ _ _ _ _ _ d w hb
      · exact pwith_old2 _ _ _ _ _ _ _ _ d w hb
      · exact pwith_old3 _ _ _ _ _ _ _ _ d w hb
    | none =>
      have hgo : goT e t d = some (upd e (t - 119).toNat (some d)) := by
        unfold goT
        rw [if_neg h95, if_neg (by simp [hnd])]
        simp only [hen]
      have e1 : pgoV e t d = .tuple #[digV (upd e (t - 119).toNat (some d)), .bool true] := by unfold pgoV; rw [hgo]; rfl
      have hb : dB e (t - 119).toNat = false := by unfold dB; rw [hen]; rfl
      rw [k1, e1]
      unfold digV
      simp only [dI_upd, dB_upd]
      rcases hl with rfl | rfl | rfl | rfl
      · exact pwith_new0 _ _ _ _ _ _ _ _ d w hb
      · exact pwith_new1 _ _ _ _ _ _ _ _ d w hb
      · exact pwith_new2 _ _ _ _ _ _ _ _ d w hb
      · exact pwith_new3 _ _ _ _ _ _ _ _ d w hb

end Go.Proofs.Ythlhbjnkohinmab

/- The program's variables: a fact and a pattern; a test. -/
namespace Go.Proofs.Ythlhbjnkohinmab
open Go.RowKit

set_option maxRecDepth 20000 in
set_option maxHeartbeats 4000000 in
theorem pgoes_no (a0 a1 a2 a3 : Bool) (a4 a5 a6 a7 : Int) (k c s p1 p2 q1 q2 x0 x1 x2 x3 : Int) (w : World) (hc : x0 ≠ c) :
    Calls Try.prog 84 #[.agg #[.bool a0, .bool a1, .bool a2, .bool a3, .int .i64 a4, .int .i64 a5, .int .i64 a6, .int .i64 a7], .agg #[.int .i64 k, .int .i64 c, .int .u8 s, .int .i64 p1, .int .i64 p2, .int .i64 q1, .int .i64 q2], .agg #[.int .i64 x0, .int .i64 x1, .int .i64 x2, .int .i64 x3]] w fun r w' => r = .returned (.tuple #[.agg #[.bool a0, .bool a1, .bool a2, .bool a3, .int .i64 a4, .int .i64 a5, .int .i64 a6, .int .i64 a7], .bool false]) ∧ w.grownBy w' none := by
  have qc : (x0 != c) = true := by simpa using hc
  go_enter Try.func84, Try.ntmps84
  go_wp2_with fail
  refine bodyPost_ret (res_ct Try.results84 rfl (pblk_at (by simp)) Try.underlying117 rfl (by kernel_rfl) rfl) rfl ⟨rfl, ?_⟩
  exact grown_alloc (grown_alloc (grown_alloc (grown_alloc (grown_refl _ _) _) _) _) _

set_option maxRecDepth 20000 in
set_option maxHeartbeats 4000000 in
theorem pgoes_one (a0 a1 a2 a3 : Bool) (a4 a5 a6 a7 : Int) (f0 f1 f2 f3 : Bool) (f4 f5 f6 f7 : Int) (k c s p1 p2 q1 q2 x1 x2 x3 : Int) (w : World)
    (H1 : Hid (∀ W, Calls Try.prog 90 #[.agg #[.bool a0, .bool a1, .bool a2, .bool a3, .int .i64 a4, .int .i64 a5, .int .i64 a6, .int .i64 a7], .agg #[.int .i64 p1, .int .i64 p2], .int .i64 x1] W fun r w' => r = .returned (.tuple #[.agg #[.bool f0, .bool f1, .bool f2, .bool f3, .int .i64 f4, .int .i64 f5, .int .i64 f6, .int .i64 f7], .bool false]) ∧ Boxed W w')) :
    Calls Try.prog 84 #[.agg #[.bool a0, .bool a1, .bool a2, .bool a3, .int .i64 a4, .int .i64 a5, .int .i64 a6, .int .i64 a7], .agg #[.int .i64 k, .int .i64 c, .int .u8 s, .int .i64 p1, .int .i64 p2, .int .i64 q1, .int .i64 q2], .agg #[.int .i64 c, .int .i64 x1, .int .i64 x2, .int .i64 x3]] w fun r w' => r = .returned (.tuple #[.agg #[.bool a0, .bool a1, .bool a2, .bool a3, .int .i64 a4, .int .i64 a5, .int .i64 a6, .int .i64 a7], .bool false]) ∧ w.grownBy w' none := by
  have qc : (c != c) = false := by simp
  have HRB : Hid (∀ o1 o2 o3 n, ((((((((w.alloc (.cells #[.bool a0, .bool a1, .bool a2, .bool a3, .int .i64 a4, .int .i64 a5, .int .i64 a6, .int .i64 a7] 117)).alloc (.cells #[.int .i64 k, .int .i64 c, .int .u8 s, .int .i64 p1, .int .i64 p2, .int .i64 q1, .int .i64 q2] 140)).alloc (.cells #[.int .i64 c, .int .i64 x1, .int .i64 x2, .int .i64 x3] 73)).alloc (.cells #[.bool false, .bool false, .bool false, .bool false, .int .i64 0, .int .i64 0, .int .i64 0, .int .i64 0] 117)).alloc o1).alloc o2).alloc o3).drewN n).heap[w.heap.size + 1 + 1 + 1]? = some (.cells #[.bool false, .bool false, .bool false, .bool false, .int .i64 0, .int .i64 0, .int .i64 0, .int .i64 0] 117 (0, 0))) := hid (fun o1 o2 o3 n => by
    show ((((((((w.alloc (.cells #[.bool a0, .bool a1, .bool a2, .bool a3, .int .i64 a4, .int .i64 a5, .int .i64 a6, .int .i64 a7] 117)).alloc (.cells #[.int .i64 k, .int .i64 c, .int .u8 s, .int .i64 p1, .int .i64 p2, .int .i64 q1, .int .i64 q2] 140)).alloc (.cells #[.int .i64 c, .int .i64 x1, .int .i64 x2, .int .i64 x3] 73)).alloc (.cells #[.bool false, .bool false, .bool false, .bool false, .int .i64 0, .int .i64 0, .int .i64 0, .int .i64 0] 117)).alloc o1).alloc o2).alloc o3)).heap[w.heap.size + 1 + 1 + 1]? = _
    rw [Below.heap_alloc _ _ _ (by first | (simp; done) | (simp; omega) | omega), Below.heap_alloc _ _ _ (by first | (simp; done) | (simp; omega) | omega), Below.heap_alloc _ _ _ (by first | (simp; done) | (simp; omega) | omega)]
    exact pblk_at (by first | rfl | (simp; done)))
  have HLT : Hid (∀ o1 o2 o3 n, w.heap.size + 1 + 1 + 1 < ((((((((w.alloc (.cells #[.bool a0, .bool a1, .bool a2, .bool a3, .int .i64 a4, .int .i64 a5, .int .i64 a6, .int .i64 a7] 117)).alloc (.cells #[.int .i64 k, .int .i64 c, .int .u8 s, .int .i64 p1, .int .i64 p2, .int .i64 q1, .int .i64 q2] 140)).alloc (.cells #[.int .i64 c, .int .i64 x1, .int .i64 x2, .int .i64 x3] 73)).alloc (.cells #[.bool false, .bool false, .bool false, .bool false, .int .i64 0, .int .i64 0, .int .i64 0, .int .i64 0] 117)).alloc o1).alloc o2).alloc o3).drewN n).heap.size) := hid (fun o1 o2 o3 n => lt_of_block (HRB.out o1 o2 o3 n))
  go_enter Try.func84, Try.ntmps84
  go_wp2_with fail
  go_at_call 90
  refine (H1.out _).mono ?_
  rintro e w1 ⟨rfl, o1, o2, o3, n, rfl⟩
  go_wp2_with fail
  refine bodyPost_ret (res_ct Try.results84 rfl ((Below.heap_alloc _ _ _ (lt_of_block (blk_setCell (blk_setCell (blk_setCell (blk_setCell (blk_setCell (blk_setCell (blk_setCell (blk_setCell (HRB.out o1 o2 o3 n) _ _) _ _) _ _) _ _) _ _) _ _) _ _) _ _))).trans (blk_setCell (blk_setCell (blk_setCell (blk_setCell (blk_setCell (blk_setCell (blk_setCell (blk_setCell (HRB.out o1 o2 o3 n) _ _) _ _) _ _) _ _) _ _) _ _) _ _) _ _)) Try.underlying117 rfl (by kernel_rfl) rfl) rfl ⟨rfl, ?_⟩
  exact grown_alloc (grown_set (grown_set (grown_set (grown_set (grown_set (grown_set (grown_set (grown_set (grown_drewN (grown_alloc (grown_alloc (grown_alloc (grown_alloc (grown_alloc (grown_alloc (grown_alloc (grown_refl _ _) _) _) _) _) _) _) _) n) (.inr (by show w.heap.size ≤ w.heap.size + 1 + 1 + 1; omega)) _) (.inr (by show w.heap.size ≤ w.heap.size + 1 + 1 + 1; omega)) _) (.inr (by show w.heap.size ≤ w.heap.size + 1 + 1 + 1; omega)) _) (.inr (by show w.heap.size ≤ w.heap.size + 1 + 1 + 1; omega)) _) (.inr (by show w.heap.size ≤ w.heap.size + 1 + 1 + 1; omega)) _) (.inr (by show w.heap.size ≤ w.heap.size + 1 + 1 + 1; omega)) _) (.inr (by show w.heap.size ≤ w.heap.size + 1 + 1 + 1; omega)) _) (.inr (by show w.heap.size ≤ w.heap.size + 1 + 1 + 1; omega)) _) _

set_option maxRecDepth 20000 in
set_option maxHeartbeats 4000000 in
theorem pgoes_two (a0 a1 a2 a3 : Bool) (a4 a5 a6 a7 : Int) (f0 f1 f2 f3 : Bool) (f4 f5 f6 f7 : Int) (g0 g1 g2 g3 : Bool) (g4 g5 g6 g7 : Int) (okb : Bool) (k c s p1 p2 q1 q2 x1 x2 x3 : Int) (w : World)
    (H1 : Hid (∀ W, Calls Try.prog 90 #[.agg #[.bool a0, .bool a1, .bool a2, .bool a3, .int .i64 a4, .int .i64 a5, .int .i64 a6, .int .i64 a7], .agg #[.int .i64 p1, .int .i64 p2], .int .i64 x1] W fun r w' => r = .returned (.tuple #[.agg #[.bool f0, .bool f1, .bool f2, .bool f3, .int .i64 f4, .int .i64 f5, .int .i64 f6, .int .i64 f7], .bool true]) ∧ Boxed W w'))
    (H2 : Hid (∀ W, Calls Try.prog 90 #[.agg #[.bool f0, .bool f1, .bool f2, .bool f3, .int .i64 f4, .int .i64 f5, .int .i64 f6, .int .i64 f7], .agg #[.int .i64 q1, .int .i64 q2], .int .i64 x2] W fun r w' => r = .returned (.tuple #[.agg #[.bool g0, .bool g1, .bool g2, .bool g3, .int .i64 g4, .int .i64 g5, .int .i64 g6, .int .i64 g7], .bool okb]) ∧ Boxed W w')) :
    Calls Try.prog 84 #[.agg #[.bool a0, .bool a1, .bool a2, .bool a3, .int .i64 a4, .int .i64 a5, .int .i64 a6, .int .i64 a7], .agg #[.int .i64 k, .int .i64 c, .int .u8 s, .int .i64 p1, .int .i64 p2, .int .i64 q1, .int .i64 q2], .agg #[.int .i64 c, .int .i64 x1, .int .i64 x2, .int .i64 x3]] w fun r w' => r = .returned (.tuple #[.agg #[.bool g0, .bool g1, .bool g2, .bool g3, .int .i64 g4, .int .i64 g5, .int .i64 g6, .int .i64 g7], .bool okb]) ∧ w.grownBy w' none := by
  have qc : (c != c) = false := by simp
  have HRB : Hid (∀ o1 o2 o3 n o4 o5 o6 o7 m, (((((((((((((w.alloc (.cells #[.bool a0, .bool a1, .bool a2, .bool a3, .int .i64 a4, .int .i64 a5, .int .i64 a6, .int .i64 a7] 117)).alloc (.cells #[.int .i64 k, .int .i64 c, .int .u8 s, .int .i64 p1, .int .i64 p2, .int .i64 q1, .int .i64 q2] 140)).alloc (.cells #[.int .i64 c, .int .i64 x1, .int .i64 x2, .int .i64 x3] 73)).alloc (.cells #[.bool false, .bool false, .bool false, .bool false, .int .i64 0, .int .i64 0, .int .i64 0, .int .i64 0] 117)).alloc o1).alloc o2).alloc o3).drewN n).alloc o4).alloc o5).alloc o6).alloc o7).drewN m).heap[w.heap.size + 1 + 1 + 1]? = some (.cells #[.bool false, .bool false, .bool false, .bool false, .int .i64 0, .int .i64 0, .int .i64 0, .int .i64 0] 117 (0, 0))) := hid (fun o1 o2 o3 n o4 o5 o6 o7 m => by
    show ((((((((((((w.alloc (.cells #[.bool a0, .bool a1, .bool a2, .bool a3, .int .i64 a4, .int .i64 a5, .int .i64 a6, .int .i64 a7] 117)).alloc (.cells #[.int .i64 k, .int .i64 c, .int .u8 s, .int .i64 p1, .int .i64 p2, .int .i64 q1, .int .i64 q2] 140)).alloc (.cells #[.int .i64 c, .int .i64 x1, .int .i64 x2, .int .i64 x3] 73)).alloc (.cells #[.bool false, .bool false, .bool false, .bool false, .int .i64 0, .int .i64 0, .int .i64 0, .int .i64 0] 117)).alloc o1).alloc o2).alloc o3).drewN n).alloc o4).alloc o5).alloc o6).alloc o7).heap[w.heap.size + 1 + 1 + 1]? = _
    rw [Below.heap_alloc _ _ _ (by first | (simp; done) | (simp; omega) | omega), Below.heap_alloc _ _ _ (by first | (simp; done) | (simp; omega) | omega), Below.heap_alloc _ _ _ (by first | (simp; done) | (simp; omega) | omega), Below.heap_alloc _ _ _ (by first | (simp; done) | (simp; omega) | omega)]
    show ((((((((w.alloc (.cells #[.bool a0, .bool a1, .bool a2, .bool a3, .int .i64 a4, .int .i64 a5, .int .i64 a6, .int .i64 a7] 117)).alloc (.cells #[.int .i64 k, .int .i64 c, .int .u8 s, .int .i64 p1, .int .i64 p2, .int .i64 q1, .int .i64 q2] 140)).alloc (.cells #[.int .i64 c, .int .i64 x1, .int .i64 x2, .int .i64 x3] 73)).alloc (.cells #[.bool false, .bool false, .bool false, .bool false, .int .i64 0, .int .i64 0, .int .i64 0, .int .i64 0] 117)).alloc o1).alloc o2).alloc o3)).heap[w.heap.size + 1 + 1 + 1]? = _
    rw [Below.heap_alloc _ _ _ (by first | (simp; done) | (simp; omega) | omega), Below.heap_alloc _ _ _ (by first | (simp; done) | (simp; omega) | omega), Below.heap_alloc _ _ _ (by first | (simp; done) | (simp; omega) | omega)]
    exact pblk_at (by first | rfl | (simp; done)))
  go_enter Try.func84, Try.ntmps84
  go_wp2_with fail
  go_at_call 90
  refine (H1.out _).mono ?_
  rintro e w1 ⟨rfl, o1, o2, o3, n, rfl⟩
  go_wp2_with fail
  go_at_call 90
  refine (H2.out _).mono ?_
  rintro e w2 ⟨rfl, o5, o6, o7, m, rfl⟩
  go_wp2_with fail
  refine bodyPost_ret (res_ct Try.results84 rfl (blk_setCell (blk_setCell (blk_setCell (blk_setCell (blk_setCell (blk_setCell (blk_setCell (blk_setCell (HRB.out o1 o2 o3 n _ o5 o6 o7 m) _ _) _ _) _ _) _ _) _ _) _ _) _ _) _ _) Try.underlying117 rfl (by kernel_rfl) rfl) rfl ⟨rfl, ?_⟩
  exact (grown_set (grown_set (grown_set (grown_set (grown_set (grown_set (grown_set (grown_set (grown_drewN (grown_alloc (grown_alloc (grown_alloc (grown_alloc (grown_drewN (grown_alloc (grown_alloc (grown_alloc (grown_alloc (grown_alloc (grown_alloc (grown_alloc (grown_refl _ _) _) _) _) _) _) _) _) n) _) _) _) _) m) (.inr (by show w.heap.size ≤ w.heap.size + 1 + 1 + 1; omega)) _) (.inr (by show w.heap.size ≤ w.heap.size + 1 + 1 + 1; omega)) _) (.inr (by show w.heap.size ≤ w.heap.size + 1 + 1 + 1; omega)) _) (.inr (by show w.heap.size ≤ w.heap.size + 1 + 1 + 1; omega)) _) (.inr (by show w.heap.size ≤ w.heap.size + 1 + 1 + 1; omega)) _) (.inr (by show w.heap.size ≤ w.heap.size + 1 + 1 + 1; omega)) _) (.inr (by show w.heap.size ≤ w.heap.size + 1 + 1 + 1; omega)) _) (.inr (by show w.heap.size ≤ w.heap.size + 1 + 1 + 1; omega)) _)

/-- A condition, as a value; its class and its terms by their bytes. -/
def condV (k c g t1 t2 : Int) : Value := .agg #[.int .i64 k, .int .i64 (c - 97), .int .u8 g, .int .i64 (opK t1), .int .i64 (opV t1), .int .i64 (opK t2), .int .i64 (opV t2)]
theorem pgoes_any (e : Env) (k c g t1 t2 : Int) (q : PFact) (w : World) (h1 : terB t1 = true) (h2 : terB t2 = true) :
    Calls Try.prog 84 #[digV e, condV k c g t1 t2, factV q] w fun r w' => (∃ e', r = .returned (.tuple #[digV e', .bool (goP e c t1 t2 q).isSome]) ∧ ∀ e2, goP e c t1 t2 q = some e2 → e' = e2) ∧ w.grownBy w' none := by
  by_cases hc : c - 97 = (q.1 : Int) / 10
  · have hgo : goP e c t1 t2 q = (goT e t1 ((q.1 : Int) % 10)).bind fun e1 => goT e1 t2 q.2.1 := by unfold goP; rw [if_pos hc]
    cases hg1 : goT e t1 ((q.1 : Int) % 10) with
    | none =>
      have hn : goP e c t1 t2 q = none := by rw [hgo, hg1]; rfl
      have H1 : Hid (∀ W, Calls Try.prog 90 #[digV e, .agg #[.int .i64 (opK t1), .int .i64 (opV t1)], .int .i64 ((q.1 : Int) % 10)] W fun r w' => r = .returned (.tuple #[digV e, .bool false]) ∧ Boxed W w') := hid (fun W => by
        have := pwith_any e t1 ((q.1 : Int) % 10) W h1
        unfold pgoV at this
        rw [hg1] at this
        exact this)
      unfold factV condV
      rw [← hc]
      refine (pgoes_one _ _ _ _ _ _ _ _ _ _ _ _ _ _ _ _ k (c - 97) g (opK t1) (opV t1) (opK t2) (opV t2) _ _ _ w H1).mono ?_
      rintro r w' ⟨rfl, hg⟩
      exact ⟨⟨e, by rw [hn]; rfl, fun e2 h => by rw [hn] at h; cases h⟩, hg⟩
    | some e1 =>
      have hn : goP e c t1 t2 q = goT e1 t2 q.2.1 := by rw [hgo, hg1]; rfl
      have H1 : Hid (∀ W, Calls Try.prog 90 #[digV e, .agg #[.int .i64 (opK t1), .int .i64 (opV t1)], .int .i64 ((q.1 : Int) % 10)] W fun r w' => r = .returned (.tuple #[digV e1, .bool true]) ∧ Boxed W w') := hid (fun W => by
        have := pwith_any e t1 ((q.1 : Int) % 10) W h1
        unfold pgoV at this
        rw [hg1] at this
        exact this)
      have H2 : Hid (∀ W, Calls Try.prog 90 #[digV e1, .agg #[.int .i64 (opK t2), .int .i64 (opV t2)], .int .i64 q.2.1] W fun r w' => r = .returned (.tuple #[digV ((goT e1 t2 q.2.1).getD e1), .bool (goT e1 t2 q.2.1).isSome]) ∧ Boxed W w') := hid (fun W => pwith_any e1 t2 q.2.1 W h2)
      unfold factV condV
      rw [← hc]
      refine (pgoes_two _ _ _ _ _ _ _ _ _ _ _ _ _ _ _ _ _ _ _ _ _ _ _ _ _ k (c - 97) g (opK t1) (opV t1) (opK t2) (opV t2) _ _ _ w H1 H2).mono ?_
      rintro r w' ⟨rfl, hg⟩
      refine ⟨⟨(goT e1 t2 q.2.1).getD e1, by rw [hn]; rfl, fun e2 h => ?_⟩, hg⟩
      rw [hn] at h
      rw [h]; rfl
  · have hgo : goP e c t1 t2 q = none := by unfold goP; rw [if_neg hc]
    refine (pgoes_no _ _ _ _ _ _ _ _ k (c - 97) g (opK t1) (opV t1) (opK t2) (opV t2) _ _ _ _ w (fun h => hc h.symm)).mono ?_
    rintro r w' ⟨rfl, hg⟩
    exact ⟨⟨e, by rw [hgo]; rfl, fun e2 h => by rw [hgo] at h; cases h⟩, hg⟩

end Go.Proofs.Ythlhbjnkohinmab
