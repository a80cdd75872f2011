import Derived.Test.YthlhbjnkohinmaaPart01
import Derived.Test.YthlhbjnkohinmaaRead
import Derived.Test.YthlhbjnkohinmaaPmem
/- Plain data that the program and the document share, where there is no document. -/
namespace Go.Proofs.Ythlhbjnkohinmaa
open Go.RowKit

theorem cls_kind {s : ByteArray} {p : Nat} (_h : cdOk s p = true) : (cdV s p).k = 1 ↔ clsB (bt s p) = true := by
  unfold cdV
  by_cases h33 : bt s p = 33
  · simp only [h33, if_true, patV]
    constructor
    · intro h; omega
    · intro h; exact absurd h (by decide)
  · by_cases hc : clsB (bt s p) = true
    · simp [h33, hc, patV]
    · simp [h33, hc, tstV]
def wgt (s : ByteArray) (R : List RuleP) (r : Nat) : Int := bt s (R.getD r (0, [], [])).1 - 48
theorem own_cap {w : World} {base : Nat} {e : TypeId} {size : Nat} {a : Option Addr} {m c n : Nat} {xs : List Value} (h : w.ownsRow base e size (.slice a m c) n xs) : n ≤ c := by
  rcases h.2 with ⟨hv, h0⟩ | ⟨g, cap, cur, hv, hb, hh, hn, _⟩
  · omega
  · cases hv; exact hn
def factsT (l : List PFact) : ByteArray := joined (l.map fun q => factP q.1 q.2.1)
theorem factsT_size (l : List PFact) : (factsT l).size = 3 * l.length := joined_facts_size l
def writT (i : In) : ByteArray := strOfNums [48 + (i.rule : Int)] ++ factsT i.facts
theorem writT_size {i : In} (h : i.facts.length ≤ 100) : (writT i).size ≤ 301 := by
  unfold writT
  rw [ByteArray.size_append, factsT_size]
  have : (strOfNums [48 + (i.rule : Int)]).size = 1 := rfl
  omega
def tellT (i : In) : ByteArray := writT i ++ ⟨#[59]⟩
def toldT (l : List In) : ByteArray := joined (l.map tellT)
theorem toldT_take (l : List In) (j : Nat) (hj : j < l.length) : toldT (l.take (j + 1)) = toldT (l.take j) ++ writT l[j] ++ ⟨#[59]⟩ := by
  unfold toldT
  rw [List.take_succ_eq_append_getElem hj, List.map_append]
  show joined (_ ++ [tellT l[j]]) = _
  rw [joined_snoc, ByteArray.append_assoc]
  rfl
theorem toldT_size : ∀ (l : List In), (∀ i ∈ l, i.facts.length ≤ 100) → (toldT l).size ≤ 302 * l.length := by
  intro l
  have key : ∀ (l : List In) (z : ByteArray), (∀ i ∈ l, i.facts.length ≤ 100) → ((l.map tellT).foldl (· ++ ·) z).size ≤ z.size + 302 * l.length := by
    intro l
    induction l with
    | nil => intro z _; simp
    | cons i l ih =>
      intro z h
      have h1 := ih (z ++ tellT i) (fun j hj => h j (by simp [hj]))
      have h2 := writT_size (h i (by simp))
      rw [List.map_cons, List.foldl_cons]
      have h3 : (tellT i).size = (writT i).size + 1 := by unfold tellT; rw [ByteArray.size_append]; rfl
      rw [ByteArray.size_append, h3] at h1
      simp only [List.length_cons]
      omega
  intro h
  have := key l ByteArray.empty h
  unfold toldT joined
  simpa using this

end Go.Proofs.Ythlhbjnkohinmaa

/- The program's variables: a term and a digit. -/
namespace Go.Proofs.Ythlhbjnkohinmaa
open Go.RowKit

theorem pblk_at {w : World} {o : Obj} {n : Nat} (h : n = w.heap.size) : (w.alloc o).heap[n]? = some o := by subst h; exact heap_alloc_new w o
/-- The variables, as the program keeps them. -/
def dI (e : Env) (n : Nat) : Int := (e n).getD 0
def dB (e : Env) (n : Nat) : Bool := (e n).isSome
def digV (e : Env) : Value := .agg #[.bool (dB e 0), .bool (dB e 1), .bool (dB e 2), .bool (dB e 3), .int .i64 (dI e 0), .int .i64 (dI e 1), .int .i64 (dI e 2), .int .i64 (dI e 3)]
/-- Three blocks more, and some draws. -/
def Boxed (w w' : World) : Prop := ∃ o1 o2 o3 n, w' = (((w.alloc o1).alloc o2).alloc o3).drewN n
theorem Boxed.grown {w w' : World} (h : Boxed w w') : w.grownBy w' none := by
  obtain ⟨o1, o2, o3, n, rfl⟩ := h
  exact grown_drewN (grown_alloc (grown_alloc (grown_alloc (grown_refl _ _) _) _) _) n
theorem dI_upd (e : Env) (n : Nat) (d : Int) (j : Nat) : dI (upd e n (some d)) j = if j = n then d else dI e j := by
  unfold dI upd
  split <;> rfl
theorem dB_upd (e : Env) (n : Nat) (d : Int) (j : Nat) : dB (upd e n (some d)) j = if j = n then true else dB e j := by
  unfold dB upd
  split <;> rfl

set_option maxRecDepth 20000 in
set_option maxHeartbeats 2000000 in
theorem pwith_blank (b0 b1 b2 b3 : Bool) (d0 d1 d2 d3 v x : Int) (w : World) :
    Calls Try.prog 101 #[.agg #[.bool b0, .bool b1, .bool b2, .bool b3, .int .i64 d0, .int .i64 d1, .int .i64 d2, .int .i64 d3], .agg #[.int .i64 0, .int .i64 v], .int .i64 x] w fun r w' => r = .returned (.tuple #[.agg #[.bool b0, .bool b1, .bool b2, .bool b3, .int .i64 d0, .int .i64 d1, .int .i64 d2, .int .i64 d3], .bool true]) ∧ Boxed w w' := by
  go_enter Try.func101, Try.ntmps101
  go_wp2_with fail
  refine bodyPost_ret (res_ct Try.results101 rfl (pblk_at (by simp)) Try.underlying136 rfl (by kernel_rfl) rfl) rfl ⟨rfl, ?_⟩
  exact ⟨_, _, _, 0, rfl⟩
set_option maxRecDepth 20000 in
set_option maxHeartbeats 2000000 in
theorem pwith_dig (b0 b1 b2 b3 : Bool) (d0 d1 d2 d3 v x : Int) (w : World) :
    Calls Try.prog 101 #[.agg #[.bool b0, .bool b1, .bool b2, .bool b3, .int .i64 d0, .int .i64 d1, .int .i64 d2, .int .i64 d3], .agg #[.int .i64 1, .int .i64 v], .int .i64 x] w fun r w' => r = .returned (.tuple #[.agg #[.bool b0, .bool b1, .bool b2, .bool b3, .int .i64 d0, .int .i64 d1, .int .i64 d2, .int .i64 d3], .bool (v == x)]) ∧ Boxed w w' := by
  go_enter Try.func101, Try.ntmps101
  go_wp2_with fail
  go_region
  all_goals go_wp2_with fail
  all_goals (refine bodyPost_ret (res_ct Try.results101 rfl (pblk_at (by simp)) Try.underlying136 rfl (by kernel_rfl) rfl) rfl ⟨rfl, ?_⟩)
  all_goals first
    | exact ⟨_, _, _, 0, rfl⟩
    | exact ⟨_, _, _, 1, rfl⟩
set_option maxRecDepth 20000 in
set_option maxHeartbeats 2000000 in
theorem pwith_old0 (b0 b1 b2 b3 : Bool) (d0 d1 d2 d3 x : Int) (w : World) (hb : b0 = true) :
    Calls Try.prog 101 #[.agg #[.bool b0, .bool b1, .bool b2, .bool b3, .int .i64 d0, .int .i64 d1, .int .i64 d2, .int .i64 d3], .agg #[.int .i64 2, .int .i64 0], .int .i64 x] w fun r w' => r = .returned (.tuple #[.agg #[.bool b0, .bool b1, .bool b2, .bool b3, .int .i64 d0, .int .i64 d1, .int .i64 d2, .int .i64 d3], .bool (d0 == x)]) ∧ Boxed w w' := by
  subst hb
  go_enter Try.func101, Try.ntmps101
  go_wp2_with fail
  go_region
  all_goals go_wp2_with fail
  all_goals (refine bodyPost_ret (res_ct Try.results101 rfl (pblk_at (by simp)) Try.underlying136 rfl (by kernel_rfl) rfl) rfl ⟨rfl, ?_⟩)
  all_goals first
    | exact ⟨_, _, _, 0, rfl⟩
    | exact ⟨_, _, _, 1, rfl⟩
set_option maxRecDepth 20000 in
set_option maxHeartbeats 2000000 in
theorem pwith_new0 (b0 b1 b2 b3 : Bool) (d0 d1 d2 d3 x : Int) (w : World) (hb : b0 = false) :
    Calls Try.prog 101 #[.agg #[.bool b0, .bool b1, .bool b2, .bool b3, .int .i64 d0, .int .i64 d1, .int .i64 d2, .int .i64 d3], .agg #[.int .i64 2, .int .i64 0], .int .i64 x] w fun r w' => r = .returned (.tuple #[.agg #[.bool true, .bool b1, .bool b2, .bool b3, .int .i64 x, .int .i64 d1, .int .i64 d2, .int .i64 d3], .bool true]) ∧ Boxed w w' := by
  subst hb
  go_enter Try.func101, Try.ntmps101
  go_wp2_with fail
  refine bodyPost_ret (res_ct Try.results101 rfl (pblk_at (by simp)) Try.underlying136 rfl (by kernel_rfl) rfl) rfl ⟨rfl, ?_⟩
  exact ⟨_, _, _, 0, rfl⟩
set_option maxRecDepth 20000 in
set_option maxHeartbeats 2000000 in
theorem pwith_old1 (b0 b1 b2 b3 : Bool) (d0 d1 d2 d3 x : Int) (w : World) (hb : b1 = true) :
    Calls Try.prog 101 #[.agg #[.bool b0, .bool b1, .bool b2, .bool b3, .int .i64 d0, .int .i64 d1, .int .i64 d2, .int .i64 d3], .agg #[.int .i64 2, .int .i64 1], .int .i64 x] w fun r w' => r = .returned (.tuple #[.agg #[.bool b0, .bool b1, .bool b2, .bool b3, .int .i64 d0, .int .i64 d1, .int .i64 d2, .int .i64 d3], .bool (d1 == x)]) ∧ Boxed w w' := by
  subst hb
  go_enter Try.func101, Try.ntmps101
  go_wp2_with fail
  go_region
  all_goals go_wp2_with fail
  all_goals (refine bodyPost_ret (res_ct Try.results101 rfl (pblk_at (by simp)) Try.underlying136 rfl (by kernel_rfl) rfl) rfl ⟨rfl, ?_⟩)
  all_goals first
    | exact ⟨_, _, _, 0, rfl⟩
    | exact ⟨_, _, _, 1, rfl⟩
set_option maxRecDepth 20000 in
set_option maxHeartbeats 2000000 in
theorem pwith_new1 (b0 b1 b2 b3 : Bool) (d0 d1 d2 d3 x : Int) (w : World) (hb : b1 = false) :
    Calls Try.prog 101 #[.agg #[.bool b0, .bool b1, .bool b2, .bool b3, .int .i64 d0, .int .i64 d1, .int .i64 d2, .int .i64 d3], .agg #[.int .i64 2, .int .i64 1], .int .i64 x] w fun r w' => r = .returned (.tuple #[.agg #[.bool b0, .bool true, .bool b2, .bool b3, .int .i64 d0, .int .i64 x, .int .i64 d2, .int .i64 d3], .bool true]) ∧ Boxed w w' := by
  subst hb
  go_enter Try.func101, Try.ntmps101
  go_wp2_with fail
  refine bodyPost_ret (res_ct Try.results101 rfl (pblk_at (by simp)) Try.underlying136 rfl (by kernel_rfl) rfl) rfl ⟨rfl, ?_⟩
  exact ⟨_, _, _, 0, rfl⟩
set_option maxRecDepth 20000 in
set_option maxHeartbeats 2000000 in
theorem pwith_old2 (b0 b1 b2 b3 : Bool) (d0 d1 d2 d3 x : Int) (w : World) (hb : b2 = true) :
    Calls Try.prog 101 #[.agg #[.bool b0, .bool b1, .bool b2, .bool b3, .int .i64 d0, .int .i64 d1, .int .i64 d2, .int .i64 d3], .agg #[.int .i64 2, .int .i64 2], .int .i64 x] w fun r w' => r = .returned (.tuple #[.agg #[.bool b0, .bool b1, .bool b2, .bool b3, .int .i64 d0, .int .i64 d1, .int .i64 d2, .int .i64 d3], .bool (d2 == x)]) ∧ Boxed w w' := by
  subst hb
  go_enter Try.func101, Try.ntmps101
  go_wp2_with fail
  go_region
  all_goals go_wp2_with fail
  all_goals (refine bodyPost_ret (res_ct Try.results101 rfl (pblk_at (by simp)) Try.underlying136 rfl (by kernel_rfl) rfl) rfl ⟨rfl, ?_⟩)
  all_goals first
    | exact ⟨_, _, _, 0, rfl⟩
    | exact ⟨_, _, _, 1, rfl⟩
set_option maxRecDepth 20000 in
set_option maxHeartbeats 2000000 in
theorem pwith_new2 (b0 b1 b2 b3 : Bool) (d0 d1 d2 d3 x : Int) (w : World) (hb : b2 = false) :
    Calls Try.prog 101 #[.agg #[.bool b0, .bool b1, .bool b2, .bool b3, .int .i64 d0, .int .i64 d1, .int .i64 d2, .int .i64 d3], .agg #[.int .i64 2, .int .i64 2], .int .i64 x] w fun r w' => r = .returned (.tuple #[.agg #[.bool b0, .bool b1, .bool true, .bool b3, .int .i64 d0, .int .i64 d1, .int .i64 x, .int .i64 d3], .bool true]) ∧ Boxed w w' := by
  subst hb
  go_enter Try.func101, Try.ntmps101
  go_wp2_with fail
  refine bodyPost_ret (res_ct Try.results101 rfl (pblk_at (by simp)) Try.underlying136 rfl (by kernel_rfl) rfl) rfl ⟨rfl, ?_⟩
  exact ⟨_, _, _, 0, rfl⟩
set_option maxRecDepth 20000 in
set_option maxHeartbeats 2000000 in
theorem pwith_old3 (b0 b1 b2 b3 : Bool) (d0 d1 d2 d3 x : Int) (w : World) (hb : b3 = true) :
    Calls Try.prog 101 #[.agg #[.bool b0, .bool b1, .bool b2, .bool b3, .int .i64 d0, .int .i64 d1, .int .i64 d2, .int .i64 d3], .agg #[.int .i64 2, .int .i64 3], .int .i64 x] w fun r w' => r = .returned (.tuple #[.agg #[.bool b0, .bool b1, .bool b2, .bool b3, .int .i64 d0, .int .i64 d1, .int .i64 d2, .int .i64 d3], .bool (d3 == x)]) ∧ Boxed w w' := by
  subst hb
  go_enter Try.func101, Try.ntmps101
  go_wp2_with fail
  go_region
  all_goals go_wp2_with fail
  all_goals (refine bodyPost_ret (res_ct Try.results101 rfl (pblk_at (by simp)) Try.underlying136 rfl (by kernel_rfl) rfl) rfl ⟨rfl, ?_⟩)
  all_goals first
    | exact ⟨_, _, _, 0, rfl⟩
    | exact ⟨_, _, _, 1, rfl⟩
set_option maxRecDepth 20000 in
set_option maxHeartbeats 2000000 in
theorem pwith_new3 (b0 b1 b2 b3 : Bool) (d0 d1 d2 d3 x : Int) (w : World) (hb : b3 = false) :
    Calls Try.prog 101 #[.agg #[.bool b0, .bool b1, .bool b2, .bool b3, .int .i64 d0, .int .i64 d1, .int .i64 d2, .int .i64 d3], .agg #[.int .i64 2, .int .i64 3], .int .i64 x] w fun r w' => r = .returned (.tuple #[.agg #[.bool b0, .bool b1, .bool b2, .bool true, .int .i64 d0, .int .i64 d1, .int .i64 d2, .int .i64 x], .bool true]) ∧ Boxed w w' := by
  subst hb
  go_enter Try.func101, Try.ntmps101
  go_wp2_with fail
  refine bodyPost_ret (res_ct Try.results101 rfl (pblk_at (by simp)) Try.underlying136 rfl (by kernel_rfl) rfl) rfl ⟨rfl, ?_⟩
  exact ⟨_, _, _, 0, rfl⟩

/-- What with answers. -/
def pgoV (e : Env) (t d : Int) : Value := .tuple #[digV ((goT e t d).getD e), .bool (goT e t d).isSome]
theorem ter_cases {t : Int} (h : terB t = true) : t = 95 ∨ digB t = true ∨ t = 119 ∨ t = 120 ∨ t = 121 ∨ t = 122 := by
  by_cases h1 : t = 95
  · exact .inl h1
  · have h2 : simB t = true := by simpa [terB, h1] using h
    cases hd : digB t with
    | true => exact .inr (.inl rfl)
    | false =>
      have hl : letB t = true := by simpa [simB, hd] using h2
      simp only [letB, decide_eq_true_eq] at hl
      right; right; omega
theorem pwith_any (e : Env) (t d : Int) (w : World) (ht : terB t = true) :
    Calls Try.prog 101 #[digV e, .agg #[.int .i64 (opK t), .int .i64 (opV t)], .int .i64 d] w fun r w' => r = .returned (pgoV e t d) ∧ Boxed w w' := by
  rcases ter_cases ht with rfl | hd | hl
  · have e1 : pgoV e 95 d = .tuple #[digV e, .bool true] := by simp [pgoV, goT]
    rw [e1]
    exact pwith_blank _ _ _ _ _ _ _ _ _ d w
  · have k1 : opK t = 1 := by simp [opK, hd]
    have k2 : opV t = t - 48 := by simp [opV, hd]
    have h95 : ¬ t = 95 := by rintro rfl; exact absurd hd (by decide)
    have e1 : pgoV e t d = .tuple #[digV e, .bool (t - 48 == d)] := by
      unfold pgoV goT
      rw [if_neg h95, if_pos hd]
      by_cases hvd : t - 48 = d
      · rw [if_pos hvd]; simp [hvd]
      · rw [if_neg hvd]; simp [hvd]
    rw [k1, k2, e1]
    exact pwith_dig _ _ _ _ _ _ _ _ _ d w
  · have hnd : digB t = false := by rcases hl with rfl | rfl | rfl | rfl <;> rfl
    have h95 : ¬ t = 95 := by omega
    have k1 : opK t = 2 := by rcases hl with rfl | rfl | rfl | rfl <;> rfl
    cases hen : e (t - 119).toNat with
    | some v =>
      have e1 : pgoV e t d = .tuple #[digV e, .bool (dI e (t - 119).toNat == d)] := by
        have hv : dI e (t - 119).toNat = v := by unfold dI; rw [hen]; rfl
        rw [hv]
        unfold pgoV goT
        rw [if_neg h95, if_neg (by simp [hnd])]
        simp only [hen]
        by_cases hvd : v = d
        · rw [if_pos hvd]; simp [hvd]
        · rw [if_neg hvd]; simp [hvd]
      have hb : dB e (t - 119).toNat = true := by unfold dB; rw [hen]; rfl
      rw [k1, e1]
      rcases hl with rfl | rfl | rfl | rfl
      · exact pwith_old0 _ _ _ _ _ _ _ _ d w hb
      · exact pwith_old1 _ _ _ _ _ _ _ _ d w hb
      · exact pwith_old2 _ _ _ _ _ _ _ _ d w hb
      · exact pwith_old3 _ _ _ _ _ _ _ _ d w hb
    | none =>
      have hgo : goT e t d = some (upd e (t - 119).toNat (some d)) := by
        unfold goT
        rw [if_neg h95, if_neg (by simp [hnd])]
        simp only [hen]
      have e1 : pgoV e t d = .tuple #[digV (upd e (t - 119).toNat (some d)), .bool true] := by unfold pgoV; rw [hgo]; rfl
      have hb : dB e (t - 119).toNat = false := by unfold dB; rw [hen]; rfl
      rw [k1, e1]
      unfold digV
      simp only [dI_upd, dB_upd]
      rcases hl with rfl | rfl | rfl | rfl
      · exact pwith_new0 _ _ _ _ _ _ _ _ d w hb
      · exact pwith_new1 _ _ _ _ _ _ _ _ d w hb
      · exact pwith_new2 _ _ _ _ _ _ _ _ d w hb
      · exact pwith_new3 _ _ _ _ _ _ _ _ d w hb

end Go.Proofs.Ythlhbjnkohinmaa

/- The program's variables: a fact and a pattern; a test. -/
namespace Go.Proofs.Ythlhbjnkohinmaa
open Go.RowKit

set_option maxRecDepth 20000 in
set_option maxHeartbeats 4000000 in
theorem pgoes_no (a0 a1 a2 a3 : Bool) (a4 a5 a6 a7 : Int) (k c s p1 p2 q1 q2 x0 x1 x2 x3 : Int) (w : World) (hc : x0 ≠ c) :
    Calls Try.prog 95 #[.agg #[.bool a0, .bool a1, .bool a2, .bool a3, .int .i64 a4, .int .i64 a5, .int .i64 a6, .int .i64 a7], .agg #[.int .i64 k, .int .i64 c, .int .u8 s, .int .i64 p1, .int .i64 p2, .int .i64 q1, .int .i64 q2], .agg #[.int .i64 x0, .int .i64 x1, .int .i64 x2, .int .i64 x3]] w fun r w' => r = .returned (.tuple #[.agg #[.bool a0, .bool a1, .bool a2, .bool a3, .int .i64 a4, .int .i64 a5, .int .i64 a6, .int .i64 a7], .bool false]) ∧ w.grownBy w' none := by
  have qc : (x0 != c) = true := by simpa using hc
  go_enter Try.func95, Try.ntmps95
  go_wp2_with fail
  refine bodyPost_ret (res_ct Try.results95 rfl (pblk_at (by simp)) Try.underlying136 rfl (by kernel_rfl) rfl) rfl ⟨rfl, ?_⟩
  exact grown_alloc (grown_alloc (grown_alloc (grown_alloc (grown_refl _ _) _) _) _) _

set_option maxRecDepth 20000 in
set_option maxHeartbeats 4000000 in
theorem pgoes_one (a0 a1 a2 a3 : Bool) (a4 a5 a6 a7 : Int) (f0 f1 f2 f3 : Bool) (f4 f5 f6 f7 : Int) (k c s p1 p2 q1 q2 x1 x2 x3 : Int) (w : World)
    (H1 : Hid (∀ W, Calls Try.prog 101 #[.agg #[.bool a0, .bool a1, .bool a2, .bool a3, .int .i64 a4, .int .i64 a5, .int .i64 a6, .int .i64 a7], .agg #[.int .i64 p1, .int .i64 p2], .int .i64 x1] W fun r w' => r = .returned (.tuple #[.agg #[.bool f0, .bool f1, .bool f2, .bool f3, .int .i64 f4, .int .i64 f5, .int .i64 f6, .int .i64 f7], .bool false]) ∧ Boxed W w')) :
    Calls Try.prog 95 #[.agg #[.bool a0, .bool a1, .bool a2, .bool a3, .int .i64 a4, .int .i64 a5, .int .i64 a6, .int .i64 a7], .agg #[.int .i64 k, .int .i64 c, .int .u8 s, .int .i64 p1, .int .i64 p2, .int .i64 q1, .int .i64 q2], .agg #[.int .i64 c, .int .i64 x1, .int .i64 x2, .int .i64 x3]] w fun r w' => r = .returned (.tuple #[.agg #[.bool a0, .bool a1, .bool a2, .bool a3, .int .i64 a4, .int .i64 a5, .int .i64 a6, .int .i64 a7], .bool false]) ∧ w.grownBy w' none := by
  have qc : (c != c) = false := by simp
  have HRB : Hid (∀ o1 o2 o3 n, ((((((((w.alloc (.cells #[.bool a0, .bool a1, .bool a2, .bool a3, .int .i64 a4, .int .i64 a5, .int .i64 a6, .int .i64 a7] 136)).alloc (.cells #[.int .i64 k, .int .i64 c, .int .u8 s, .int .i64 p1, .int .i64 p2, .int .i64 q1, .int .i64 q2] 163)).alloc (.cells #[.int .i64 c, .int .i64 x1, .int .i64 x2, .int .i64 x3] 97)).alloc (.cells #[.bool false, .bool false, .bool false, .bool false, .int .i64 0, .int .i64 0, .int .i64 0, .int .i64 0] 136)).alloc o1).alloc o2).alloc o3).drewN n).heap[w.heap.size + 1 + 1 + 1]? = some (.cells #[.bool false, .bool false, .bool false, .bool false, .int .i64 0, .int .i64 0, .int .i64 0, .int .i64 0] 136 (0, 0))) := hid (fun o1 o2 o3 n => by
    show ((((((((w.alloc (.cells #[.bool a0, .bool a1, .bool a2, .bool a3, .int .i64 a4, .int .i64 a5, .int .i64 a6, .int .i64 a7] 136)).alloc (.cells #[.int .i64 k, .int .i64 c, .int .u8 s, .int .i64 p1, .int .i64 p2, .int .i64 q1, .int .i64 q2] 163)).alloc (.cells #[.int .i64 c, .int .i64 x1, .int .i64 x2, .int .i64 x3] 97)).alloc (.cells #[.bool false, .bool false, .bool false, .bool false, .int .i64 0, .int .i64 0, .int .i64 0, .int .i64 0] 136)).alloc o1).alloc o2).alloc o3)).heap[w.heap.size + 1 + 1 + 1]? = _
    rw [Below.heap_alloc _ _ _ (by first | (simp; done) | (simp; omega) | omega), Below.heap_alloc _ _ _ (by first | (simp; done) | (simp; omega) | omega), Below.heap_alloc _ _ _ (by first | (simp; done) | (simp; omega) | omega)]
    exact pblk_at (by first | rfl | (simp; done)))
  have HLT : Hid (∀ o1 o2 o3 n, w.heap.size + 1 + 1 + 1 < ((((((((w.alloc (.cells #[.bool a0, .bool a1, .bool a2, .bool a3, .int .i64 a4, .int .i64 a5, .int .i64 a6, .int .i64 a7] 136)).alloc (.cells #[.int .i64 k, .int .i64 c, .int .u8 s, .int .i64 p1, .int .i64 p2, .int .i64 q1, .int .i64 q2] 163)).alloc (.cells #[.int .i64 c, .int .i64 x1, .int .i64 x2, .int .i64 x3] 97)).alloc (.cells #[.bool false, .bool false, .bool false, .bool false, .int .i64 0, .int .i64 0, .int .i64 0, .int .i64 0] 136)).alloc o1).alloc o2).alloc o3).drewN n).heap.size) := hid (fun o1 o2 o3 n => lt_of_block (HRB.out o1 o2 o3 n))
  go_enter Try.func95, Try.ntmps95
  go_wp2_with fail
  go_at_call 101
  refine (H1.out _).mono ?_
  rintro e w1 ⟨rfl, o1, o2, o3, n, rfl⟩
  go_wp2_with fail
  refine bodyPost_ret (res_ct Try.results95 rfl ((Below.heap_alloc _ _ _ (lt_of_block (blk_setCell (blk_setCell (blk_setCell (blk_setCell (blk_setCell (blk_setCell (blk_setCell (blk_setCell (HRB.out o1 o2 o3 n) _ _) _ _) _ _) _ _) _ _) _ _) _ _) _ _))).trans (blk_setCell (blk_setCell (blk_setCell (blk_setCell (blk_setCell (blk_setCell (blk_setCell (blk_setCell (HRB.out o1 o2 o3 n) _ _) _ _) _ _) _ _) _ _) _ _) _ _) _ _)) Try.underlying136 rfl (by kernel_rfl) rfl) rfl ⟨rfl, ?_⟩
  exact grown_alloc (grown_set (grown_set (grown_set (grown_set (grown_set (grown_set (grown_set (grown_set (grown_drewN (grown_alloc (grown_alloc (grown_alloc (grown_alloc (grown_alloc (grown_alloc (grown_alloc (grown_refl _ _) _) _) _) _) _) _) _) n) (.inr (by show w.heap.size ≤ w.heap.size + 1 + 1 + 1; omega)) _) (.inr (by show w.heap.size ≤ w.heap.size + 1 + 1 + 1; omega)) _) (.inr (by show w.heap.size ≤ w.heap.size + 1 + 1 + 1; omega)) _) (.inr (by show w.heap.size ≤ w.heap.size + 1 + 1 + 1; omega)) _) (.inr (by show w.heap.size ≤ w.heap.size + 1 + 1 + 1; omega)) _) (.inr (by show w.heap.size ≤ w.heap.size + 1 + 1 + 1; omega)) _) (.inr (by show w.heap.size ≤ w.heap.size + 1 + 1 + 1; omega)) _) (.inr (by show w.heap.size ≤ w.heap.size + 1 + 1 + 1; omega)) _) _

set_option maxRecDepth 20000 in
set_option maxHeartbeats 4000000 in
theorem pgoes_two (a0 a1 a2 a3 : Bool) (a4 a5 a6 a7 : Int) (f0 f1 f2 f3 : Bool) (f4 f5 f6 f7 : Int) (g0 g1 g2 g3 : Bool) (g4 g5 g6 g7 : Int) (okb : Bool) (k c s p1 p2 q1 q2 x1 x2 x3 : Int) (w : World)
    (H1 : Hid (∀ W, Calls Try.prog 101 #[.agg #[.bool a0, .bool a1, .bool a2, .bool a3, .int .i64 a4, .int .i64 a5, .int .i64 a6, .int .i64 a7], .agg #[.int .i64 p1, .int .i64 p2], .int .i64 x1] W fun r w' => r = .returned (.tuple #[.agg #[.bool f0, .bool f1, .bool f2, .bool f3, .int .i64 f4, .int .i64 f5, .int .i64 f6, .int .i64 f7], .bool true]) ∧ Boxed W w'))
    (H2 : Hid (∀ W, Calls Try.prog 101 #[.agg #[.bool f0, .bool f1, .bool f2, .bool f3, .int .i64 f4, .int .i64 f5, .int .i64 f6, .int .i64 f7], .agg #[.int .i64 q1, .int .i64 q2], .int .i64 x2] W fun r w' => r = .returned (.tuple #[.agg #[.bool g0, .bool g1, .bool g2, .bool g3, .int .i64 g4, .int .i64 g5, .int .i64 g6, .int .i64 g7], .bool okb]) ∧ Boxed W w')) :
    Calls Try.prog 95 #[.agg #[.bool a0, .bool a1, .bool a2, .bool a3, .int .i64 a4, .int .i64 a5, .int .i64 a6, .int .i64 a7], .agg #[.int .i64 k, .int .i64 c, .int .u8 s, .int .i64 p1, .int .i64 p2, .int .i64 q1, .int .i64 q2], .agg #[.int .i64 c, .int .i64 x1, .int .i64 x2, .int .i64 x3]] w fun r w' => r = .returned (.tuple #[.agg #[.bool g0, .bool g1, .bool g2, .bool g3, .int .i64 g4, .int .i64 g5, .int .i64 g6, .int .i64 g7], .bool okb]) ∧ w.grownBy w' none := by
  have qc : (c != c) = false := by simp
  have HRB : Hid (∀ o1 o2 o3 n o4 o5 o6 o7 m, (((((((((((((w.alloc (.cells #[.bool a0, .bool a1, .bool a2, .bool a3, .int .i64 a4, .int .i64 a5, .int .i64 a6, .int .i64 a7] 136)).alloc (.cells #[.int .i64 k, .int .i64 c, .int .u8 s, .int .i64 p1, .int .i64 p2, .int .i64 q1, .int .i64 q2] 163)).alloc (.cells #[.int .i64 c, .int .i64 x1, .int .i64 x2, .int .i64 x3] 97)).alloc (.cells #[.bool false, .bool false, .bool false, .bool false, .int .i64 0, .int .i64 0, .int .i64 0, .int .i64 0] 136)).alloc o1).alloc o2).alloc o3).drewN n).alloc o4).alloc o5).alloc o6).alloc o7).drewN m).heap[w.heap.size + 1 + 1 + 1]? = some (.cells #[.bool false, .bool false, .bool false, .bool false, .int .i64 0, .int .i64 0, .int .i64 0, .int .i64 0] 136 (0, 0))) := hid (fun o1 o2 o3 n o4 o5 o6 o7 m => by
    show ((((((((((((w.alloc (.cells #[.bool a0, .bool a1, .bool a2, .bool a3, .int .i64 a4, .int .i64 a5, .int .i64 a6, .int .i64 a7] 136)).alloc (.cells #[.int .i64 k, .int .i64 c, .int .u8 s, .int .i64 p1, .int .i64 p2, .int .i64 q1, .int .i64 q2] 163)).alloc (.cells #[.int .i64 c, .int .i64 x1, .int .i64 x2, .int .i64 x3] 97)).alloc (.cells #[.bool false, .bool false, .bool false, .bool false, .int .i64 0, .int .i64 0, .int .i64 0, .int .i64 0] 136)).alloc o1).alloc o2).alloc o3).drewN n).alloc o4).alloc o5).alloc o6).alloc o7).heap[w.heap.size + 1 + 1 + 1]? = _
    rw [Below.heap_alloc _ _ _ (by first | (simp; done) | (simp; omega) | omega), Below.heap_alloc _ _ _ (by first | (simp; done) | (simp; omega) | omega), Below.heap_alloc _ _ _ (by first | (simp; done) | (simp; omega) | omega), Below.heap_alloc _ _ _ (by first | (simp; done) | (simp; omega) | omega)]
    show ((((((((w.alloc (.cells #[.bool a0, .bool a1, .bool a2, .bool a3, .int .i64 a4, .int .i64 a5, .int .i64 a6, .int .i64 a7] 136)).alloc (.cells #[.int .i64 k, .int .i64 c, .int .u8 s, .int .i64 p1, .int .i64 p2, .int .i64 q1, .int .i64 q2] 163)).alloc (.cells #[.int .i64 c, .int .i64 x1, .int .i64 x2, .int .i64 x3] 97)).alloc (.cells #[.bool false, .bool false, .bool false, .bool false, .int .i64 0, .int .i64 0, .int .i64 0, .int .i64 0] 136)).alloc o1).alloc o2).alloc o3)).heap[w.heap.size + 1 + 1 + 1]? = _
    rw [Below.heap_alloc _ _ _ (by first | (simp; done) | (simp; omega) | omega), Below.heap_alloc _ _ _ (by first | (simp; done) | (simp; omega) | omega), Below.heap_alloc _ _ _ (by first | (simp; done) | (simp; omega) | omega)]
    exact pblk_at (by first | rfl | (simp; done)))
  go_enter Try.func95, Try.ntmps95
  go_wp2_with fail
  go_at_call 101
  refine (H1.out _).mono ?_
  rintro e w1 ⟨rfl, o1, o2, o3, n, rfl⟩
  go_wp2_with fail
  go_at_call 101
  refine (H2.out _).mono ?_
  rintro e w2 ⟨rfl, o5, o6, o7, m, rfl⟩
  go_wp2_with fail
  refine bodyPost_ret (res_ct Try.results95 rfl (blk_setCell (blk_setCell (blk_setCell (blk_setCell (blk_setCell (blk_setCell (blk_setCell (blk_setCell (HRB.out o1 o2 o3 n _ o5 o6 o7 m) _ _) _ _) _ _) _ _) _ _) _ _) _ _) _ _) Try.underlying136 rfl (by kernel_rfl) rfl) rfl ⟨rfl, ?_⟩
  exact (grown_set (grown_set (grown_set (grown_set (grown_set (grown_set (grown_set (grown_set (grown_drewN (grown_alloc (grown_alloc (grown_alloc (grown_alloc (grown_drewN (grown_alloc (grown_alloc (grown_alloc (grown_alloc (grown_alloc (grown_alloc (grown_alloc (grown_refl _ _) _) _) _) _) _) _) _) n) _) _) _) _) m) (.inr (by show w.heap.size ≤ w.heap.size + 1 + 1 + 1; omega)) _) (.inr (by show w.heap.size ≤ w.heap.size + 1 + 1 + 1; omega)) _) (.inr (by show w.heap.size ≤ w.heap.size + 1 + 1 + 1; omega)) _) (.inr (by show w.heap.size ≤ w.heap.size + 1 + 1 + 1; omega)) _) (.inr (by show w.heap.size ≤ w.heap.size + 1 + 1 + 1; omega)) _) (.inr (by show w.heap.size ≤ w.heap.size + 1 + 1 + 1; omega)) _) (.inr (by show w.heap.size ≤ w.heap.size + 1 + 1 + 1; omega)) _) (.inr (by show w.heap.size ≤ w.heap.size + 1 + 1 + 1; omega)) _)

/-- A condition, as a value; its class and its terms by their bytes. -/
def condV (k c g t1 t2 : Int) : Value := .agg #[.int .i64 k, .int .i64 (c - 97), .int .u8 g, .int .i64 (opK t1), .int .i64 (opV t1), .int .i64 (opK t2), .int .i64 (opV t2)]
theorem pgoes_any (e : Env) (k c g t1 t2 : Int) (q : PFact) (w : World) (h1 : terB t1 = true) (h2 : terB t2 = true) :
    Calls Try.prog 95 #[digV e, condV k c g t1 t2, factV q] w fun r w' => (∃ e', r = .returned (.tuple #[digV e', .bool (goP e c t1 t2 q).isSome]) ∧ ∀ e2, goP e c t1 t2 q = some e2 → e' = e2) ∧ w.grownBy w' none := by
  by_cases hc : c - 97 = (q.1 : Int) / 10
  · have hgo : goP e c t1 t2 q = (goT e t1 ((q.1 : Int) % 10)).bind fun e1 => goT e1 t2 q.2.1 := by unfold goP; rw [if_pos hc]
    cases hg1 : goT e t1 ((q.1 : Int) % 10) with
    | none =>
      have hn : goP e c t1 t2 q = none := by rw [hgo, hg1]; rfl
      have H1 : Hid (∀ W, Calls Try.prog 101 #[digV e, .agg #[.int .i64 (opK t1), .int .i64 (opV t1)], .int .i64 ((q.1 : Int) % 10)] W fun r w' => r = .returned (.tuple #[digV e, .bool false]) ∧ Boxed W w') := hid (fun W => by
        have := pwith_any e t1 ((q.1 : Int) % 10) W h1
        unfold pgoV at this
        rw [hg1] at this
        exact this)
      unfold factV condV
      rw [← hc]
      refine (pgoes_one _ _ _ _ _ _ _ _ _ _ _ _ _ _ _ _ k (c - 97) g (opK t1) (opV t1) (opK t2) (opV t2) _ _ _ w H1).mono ?_
      rintro r w' ⟨rfl, hg⟩
      exact ⟨⟨e, by rw [hn]; rfl, fun e2 h => by rw [hn] at h; cases h⟩, hg⟩
    | some e1 =>
      have hn : goP e c t1 t2 q = goT e1 t2 q.2.1 := by rw [hgo, hg1]; rfl
      have H1 : Hid (∀ W, Calls Try.prog 101 #[digV e, .agg #[.int .i64 (opK t1), .int .i64 (opV t1)], .int .i64 ((q.1 : Int) % 10)] W fun r w' => r = .returned (.tuple #[digV e1, .bool true]) ∧ Boxed W w') := hid (fun W => by
        have := pwith_any e t1 ((q.1 : Int) % 10) W h1
        unfold pgoV at this
        rw [hg1] at this
        exact this)
      have H2 : Hid (∀ W, Calls Try.prog 101 #[digV e1, .agg #[.int .i64 (opK t2), .int .i64 (opV t2)], .int .i64 q.2.1] W fun r w' => r = .returned (.tuple #[digV ((goT e1 t2 q.2.1).getD e1), .bool (goT e1 t2 q.2.1).isSome]) ∧ Boxed W w') := hid (fun W => pwith_any e1 t2 q.2.1 W h2)
      unfold factV condV
      rw [← hc]
      refine (pgoes_two _ _ _ _ _ _ _ _ _ _ _ _ _ _ _ _ _ _ _ _ _ _ _ _ _ k (c - 97) g (opK t1) (opV t1) (opK t2) (opV t2) _ _ _ w H1 H2).mono ?_
      rintro r w' ⟨rfl, hg⟩
      refine ⟨⟨(goT e1 t2 q.2.1).getD e1, by rw [hn]; rfl, fun e2 h => ?_⟩, hg⟩
      rw [hn] at h
      rw [h]; rfl
  · have hgo : goP e c t1 t2 q = none := by unfold goP; rw [if_neg hc]
    refine (pgoes_no _ _ _ _ _ _ _ _ k (c - 97) g (opK t1) (opV t1) (opK t2) (opV t2) _ _ _ _ w (fun h => hc h.symm)).mono ?_
    rintro r w' ⟨rfl, hg⟩
    exact ⟨⟨e, by rw [hgo]; rfl, fun e2 h => by rw [hgo] at h; cases h⟩, hg⟩

end Go.Proofs.Ythlhbjnkohinmaa

/- The program's instantiations: does any fact go with a pattern? -/
namespace Go.Proofs.Ythlhbjnkohinmaa
open Go.RowKit

theorem anyB_yes {F : List PFact} {e : Env} {c t1 t2 : Int} {j : Nat} (hj : j < F.length) (h : (goP e c t1 t2 F[j]).isSome = true) : noneB F e c t1 t2 = false := by
  unfold noneB
  rw [List.all_eq_false]
  refine ⟨F[j], List.getElem_mem hj, ?_⟩
  cases hg : goP e c t1 t2 F[j] with
  | none => rw [hg] at h; cases h
  | some e' => simp
theorem anyB_no {F : List PFact} {e : Env} {c t1 t2 : Int} (h : ∀ j (hj : j < F.length), goP e c t1 t2 F[j] = none) : noneB F e c t1 t2 = true := by
  unfold noneB
  rw [List.all_eq_true]
  intro q hq
  obtain ⟨j, hj, rfl⟩ := List.mem_iff_getElem.mp hq
  rw [h j hj]; rfl

set_option maxRecDepth 20000 in
set_option maxHeartbeats 4000000 in
theorem pany_any (e : Env) (k c g t1 t2 : Int) (F : List PFact) (fa : Option Addr) (fc B : Nat) (w : World) (h1 : terB t1 = true) (h2 : terB t2 = true) (hFl : F.length ≤ 60)
    (hrow : w.ownsRow B 97 4 (.slice fa F.length fc) F.length (fcCells F)) :
    Calls Try.prog 86 #[digV e, condV k c g t1 t2, .slice fa F.length fc] w fun r w' => r = .returned (.bool (!(noneB F e c t1 t2))) ∧ w.grownBy w' none := by
  have HGO : Hid (∀ (j : Nat) (hj : j < F.length) (W : World), Calls Try.prog 95 #[digV e, condV k c g t1 t2, factV F[j]] W fun r w' => (∃ e', r = .returned (.tuple #[digV e', .bool (goP e c t1 t2 F[j]).isSome]) ∧ ∀ e2, goP e c t1 t2 F[j] = some e2 → e' = e2) ∧ W.grownBy w' none) := hid (fun j hj W => pgoes_any e k c g t1 t2 F[j] W h1 h2)
  obtain ⟨r, hr⟩ : ∃ r, r = noneB F e c t1 t2 := ⟨_, rfl⟩
  rw [← hr]
  have HR := hid hr
  have HROW := hid hrow
  unfold digV condV factV at HGO
  unfold digV condV
  obtain ⟨a0, ha0⟩ : ∃ a, a = dB e 0 := ⟨_, rfl⟩
  obtain ⟨a1, ha1⟩ : ∃ a, a = dB e 1 := ⟨_, rfl⟩
  obtain ⟨a2, ha2⟩ : ∃ a, a = dB e 2 := ⟨_, rfl⟩
  obtain ⟨a3, ha3⟩ : ∃ a, a = dB e 3 := ⟨_, rfl⟩
  obtain ⟨a4, ha4⟩ : ∃ a, a = dI e 0 := ⟨_, rfl⟩
  obtain ⟨a5, ha5⟩ : ∃ a, a = dI e 1 := ⟨_, rfl⟩
  obtain ⟨a6, ha6⟩ : ∃ a, a = dI e 2 := ⟨_, rfl⟩
  obtain ⟨a7, ha7⟩ : ∃ a, a = dI e 3 := ⟨_, rfl⟩
  obtain ⟨c1, hc1⟩ : ∃ a, a = c - 97 := ⟨_, rfl⟩
  obtain ⟨p1, hp1⟩ : ∃ a, a = opK t1 := ⟨_, rfl⟩
  obtain ⟨p2, hp2⟩ : ∃ a, a = opV t1 := ⟨_, rfl⟩
  obtain ⟨q1, hq1⟩ : ∃ a, a = opK t2 := ⟨_, rfl⟩
  obtain ⟨q2, hq2⟩ : ∃ a, a = opV t2 := ⟨_, rfl⟩
  rw [← ha0, ← ha1, ← ha2, ← ha3, ← ha4, ← ha5, ← ha6, ← ha7, ← hc1, ← hp1, ← hp2, ← hq1, ← hq2] at HGO ⊢
  clear hr hrow h1 h2 ha0 ha1 ha2 ha3 ha4 ha5 ha6 ha7 hc1 hp1 hp2 hq1 hq2
  go_enter Try.func86, Try.ntmps86
  go_wp2_with fail
  have HWA : Hid (w.grownBy ((w.alloc (.cells #[.bool a0, .bool a1, .bool a2, .bool a3, .int .i64 a4, .int .i64 a5, .int .i64 a6, .int .i64 a7] 136)).alloc (.cells #[.int .i64 k, .int .i64 c1, .int .u8 g, .int .i64 p1, .int .i64 p2, .int .i64 q1, .int .i64 q2] 163)) none) := hid (grown_alloc (grown_alloc (grown_refl _ _) _) _)
  have HWB : Hid (((w.alloc (.cells #[.bool a0, .bool a1, .bool a2, .bool a3, .int .i64 a4, .int .i64 a5, .int .i64 a6, .int .i64 a7] 136)).alloc (.cells #[.int .i64 k, .int .i64 c1, .int .u8 g, .int .i64 p1, .int .i64 p2, .int .i64 q1, .int .i64 q2] 163)).heap[w.heap.size]? = some (.cells #[.bool a0, .bool a1, .bool a2, .bool a3, .int .i64 a4, .int .i64 a5, .int .i64 a6, .int .i64 a7] 136 (0, 0))) := hid ((Below.heap_alloc _ _ _ (by simp)).trans (heap_alloc_new w _))
  have HWC : Hid (((w.alloc (.cells #[.bool a0, .bool a1, .bool a2, .bool a3, .int .i64 a4, .int .i64 a5, .int .i64 a6, .int .i64 a7] 136)).alloc (.cells #[.int .i64 k, .int .i64 c1, .int .u8 g, .int .i64 p1, .int .i64 p2, .int .i64 q1, .int .i64 q2] 163)).heap[w.heap.size + 1]? = some (.cells #[.int .i64 k, .int .i64 c1, .int .u8 g, .int .i64 p1, .int .i64 p2, .int .i64 q1, .int .i64 q2] 163 (0, 0))) := hid (pblk_at (by simp))
  generalize (w.alloc (.cells #[.bool a0, .bool a1, .bool a2, .bool a3, .int .i64 a4, .int .i64 a5, .int .i64 a6, .int .i64 a7] 136)).alloc (.cells #[.int .i64 k, .int .i64 c1, .int .u8 g, .int .i64 p1, .int .i64 p2, .int .i64 q1, .int .i64 q2] 163) = WA at HWA HWB HWC ⊢
  generalize w.heap.size + 1 = cb at HWC ⊢
  generalize w.heap.size = b at HWB ⊢
  go_loopw [13] (fun t wr => ∃ j : Nat, j ≤ F.length ∧ t = .int .i64 j ∧ WA.grownBy wr none ∧ ∀ i (hi : i < F.length), i < j → goP e c t1 t2 F[i] = none) (fun t _ => F.length - (intOf t).toNat)
  case atStart => exact ⟨0, by omega, rfl, grown_refl _ _, fun i _ h => by omega⟩
  case round =>
    obtain ⟨j, hj, rfl, hgr, hno⟩ := hrel
    have HN := hid hno
    have HGR := hid hgr
    clear hno
    by_cases hlt : j < F.length
    · have bB := (hgr.block _ (lt_of_block HWB.out) (by simp)).trans HWB.out
      have cB := (hgr.block _ (lt_of_block HWC.out) (by simp)).trans HWC.out
      have ka0 : wr.cell? ⟨b, 0, none⟩ = some (.bool a0) := by rw [cell_of_row _ _ _ _ _ _ bB]; rfl
      have ka1 : wr.cell? ⟨b, 1, none⟩ = some (.bool a1) := by rw [cell_of_row _ _ _ _ _ _ bB]; rfl
      have ka2 : wr.cell? ⟨b, 2, none⟩ = some (.bool a2) := by rw [cell_of_row _ _ _ _ _ _ bB]; rfl
      have ka3 : wr.cell? ⟨b, 3, none⟩ = some (.bool a3) := by rw [cell_of_row _ _ _ _ _ _ bB]; rfl
      have ka4 : wr.cell? ⟨b, 4, none⟩ = some (.int .i64 a4) := by rw [cell_of_row _ _ _ _ _ _ bB]; rfl
      have ka5 : wr.cell? ⟨b, 5, none⟩ = some (.int .i64 a5) := by rw [cell_of_row _ _ _ _ _ _ bB]; rfl
      have ka6 : wr.cell? ⟨b, 6, none⟩ = some (.int .i64 a6) := by rw [cell_of_row _ _ _ _ _ _ bB]; rfl
      have ka7 : wr.cell? ⟨b, 7, none⟩ = some (.int .i64 a7) := by rw [cell_of_row _ _ _ _ _ _ bB]; rfl
      have kc0 : wr.cell? ⟨cb, 0, none⟩ = some (.int .i64 k) := by rw [cell_of_row _ _ _ _ _ _ cB]; rfl
      have kc1 : wr.cell? ⟨cb, 1, none⟩ = some (.int .i64 c1) := by rw [cell_of_row _ _ _ _ _ _ cB]; rfl
      have kc2 : wr.cell? ⟨cb, 2, none⟩ = some (.int .u8 g) := by rw [cell_of_row _ _ _ _ _ _ cB]; rfl
      have kc3 : wr.cell? ⟨cb, 3, none⟩ = some (.int .i64 p1) := by rw [cell_of_row _ _ _ _ _ _ cB]; rfl
      have kc4 : wr.cell? ⟨cb, 4, none⟩ = some (.int .i64 p2) := by rw [cell_of_row _ _ _ _ _ _ cB]; rfl
      have kc5 : wr.cell? ⟨cb, 5, none⟩ = some (.int .i64 q1) := by rw [cell_of_row _ _ _ _ _ _ cB]; rfl
      have kc6 : wr.cell? ⟨cb, 6, none⟩ = some (.int .i64 q2) := by rw [cell_of_row _ _ _ _ _ _ cB]; rfl
      have how := own_kept HROW.out (grown_trans HWA.out hgr) (fun g hg => by cases hg)
      obtain ⟨gf, rfl, _, _, hgl, hcell⟩ := own_cell how (by omega)
      obtain ⟨y0, y1, y2, y3⟩ := fcCells_at F j hlt
      have d0 := hcell _ _ y0
      have d1 := hcell _ _ y1
      have d2 := hcell _ _ y2
      have d3 := hcell _ _ y3
      have n1 : b < wr.heap.size := lt_of_block bB
      have n2 : cb < wr.heap.size := lt_of_block cB
      have n3 : b ≠ wr.heap.size := by omega
      have n4 : cb ≠ wr.heap.size := by omega
      have n5 : gf ≠ wr.heap.size := by omega
      have HC := hid (HGO.out j hlt)
      have HSO : Hid ((goP e c t1 t2 F[j]).isSome = true → (!r) = true) := hid (fun h => by rw [HR.out, anyB_yes hlt h]; rfl)
      have HNO : Hid ((goP e c t1 t2 F[j]).isSome = false → ∀ i (hi : i < F.length), i < j + 1 → goP e c t1 t2 F[i] = none) := hid (fun h i hi hij => by
        by_cases ei : i = j
        · subst ei
          cases hg : goP e c t1 t2 F[i] with
          | none => rfl
          | some e' => rw [hg] at h; cases h
        · exact HN.out i hi (by omega))
      obtain ⟨ok, hok⟩ : ∃ ok, ok = (goP e c t1 t2 F[j]).isSome := ⟨_, rfl⟩
      rw [← hok] at HC HSO HNO
      obtain ⟨z0, hz0⟩ : ∃ z : Int, z = (F[j].1 : Int) / 10 := ⟨_, rfl⟩
      obtain ⟨z1, hz1⟩ : ∃ z : Int, z = (F[j].1 : Int) % 10 := ⟨_, rfl⟩
      obtain ⟨z2, hz2⟩ : ∃ z, z = F[j].2.1 := ⟨_, rfl⟩
      obtain ⟨z3, hz3⟩ : ∃ z, z = F[j].2.2 := ⟨_, rfl⟩
      rw [← hz0, ← hz1, ← hz2, ← hz3] at HC
      rw [← hz0] at d0
      rw [← hz1] at d1
      rw [← hz2] at d2
      rw [← hz3] at d3
      clear hok hz0 hz1 hz2 hz3 how hcell y0 y1 y2 y3 bB cB hgr
      go_wp2_with fail
      go_at_call 95
      refine (HC.out _).mono ?_
      rintro er w1 ⟨⟨e', rfl, _⟩, hg1⟩
      have HG1 : Hid (WA.grownBy w1 none) := hid (grown_trans HGR.out (grown_trans (grown_alloc (grown_refl _ _) _) hg1))
      generalize dB e' 0 = f0
      generalize dB e' 1 = f1
      generalize dB e' 2 = f2
      generalize dB e' 3 = f3
      generalize dI e' 0 = f4
      generalize dI e' 1 = f5
      generalize dI e' 2 = f6
      generalize dI e' 3 = f7
      clear hg1
      cases ok with
      | true =>
        have HS := hid (HSO.out rfl)
        go_wp2_with fail
        go_ret
        exact ⟨by rw [HS.out]; rfl, grown_trans HWA.out (grown_alloc HG1.out _)⟩
      | false =>
        have HN' := hid (HNO.out rfl)
        go_wp2_with fail
        go_roundw
        case rel => exact ⟨j + 1, by omega, by go_num, grown_alloc HG1.out _, HN'.out⟩
        case measure => simp [intOf]; omega
    · have HS : Hid ((!r) = false) := hid (by rw [HR.out, anyB_no (fun i hi => HN.out i hi (by omega))]; rfl)
      clear hgr
      go_wp2_with fail
      go_ret
      exact ⟨by rw [HS.out]; rfl, grown_trans HWA.out HGR.out⟩

end Go.Proofs.Ythlhbjnkohinmaa
