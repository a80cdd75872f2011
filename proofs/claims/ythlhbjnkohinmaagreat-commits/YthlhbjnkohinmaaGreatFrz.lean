/- What is never written again: the rules of an engine, on both sides. -/
import Derived.Test.YthlhbjnkohinmaaGreatMem
import Derived.Test.YthlhbjnkohinmaaGreatPeng
import Derived.Test.YthlhbjnkohinmaaGreatRefRules
namespace Go.Proofs.YthlhbjnkohinmaaGreat
open Go.RowKit

/-- What is said holds wherever some blocks are as they are. -/
def FrozenA (Φ : World → Prop) : Asn := fun w f => (∀ b ∈ f, b < w.heap.size) ∧ ∀ w' : World, (∀ b ∈ f, w'.heap[b]? = w.heap[b]?) → Φ w'
theorem FrozenA.framed (Φ : World → Prop) : Framed (FrozenA Φ) := by
  rintro S w w' f ⟨h1, h2⟩ hf hs
  refine ⟨fun b hb => Nat.lt_of_lt_of_le (h1 b hb) hf.size, fun w2 h => h2 w2 (fun b hb => (h b hb).trans (hf.block b (h1 b hb) (hs b hb)))⟩
theorem FrozenA.within (Φ : World → Prop) : Within (FrozenA Φ) := fun h g hg => h.1 g hg
theorem FrozenA.now {Φ : World → Prop} {w : World} {f : List Nat} (h : FrozenA Φ w f) : Φ w := h.2 w (fun _ _ => rfl)

theorem own_moved {w w' : World} {B : Nat} {e : TypeId} {size : Nat} {v : Value} {n : Nat} {xs : List Value} (h : w.ownsRow B e size v n xs)
    (hk : ∀ g cs, B ≤ g → w.heap[g]? = some (.cells cs e (0, 0)) → w'.heap[g]? = w.heap[g]?) : w'.ownsRow 0 e size v n xs := by
  obtain ⟨h1, h2⟩ := h
  refine ⟨h1, ?_⟩
  rcases h2 with h2 | ⟨g, cap, cur, rfl, hb, hh, h3⟩
  · exact .inl h2
  · exact .inr ⟨g, cap, cur, rfl, Nat.zero_le _, (hk g _ hb hh).trans hh, h3⟩

/-- Blocks from B on, but for those of two types, are as they were. -/
def SameBut (B : Nat) (t1 t2 : TypeId) (w w' : World) : Prop := ∀ g cs t, B ≤ g → w.heap[g]? = some (.cells cs t (0, 0)) → t ≠ t1 → t ≠ t2 → w'.heap[g]? = w.heap[g]?
theorem Parts_moved {w w' : World} {B : Nat} {s : ByteArray} (hk : SameBut B 91 40 w w') : ∀ (R : List RuleP) (xs : List Value), Parts w B s R xs → Parts w' 0 s R xs
  | [], _, h => h
  | r :: R, xs, h => by
    obtain ⟨a1, m1, c1, a2, m2, c2, ys, rfl, k1, k2, k3⟩ := h
    exact ⟨a1, m1, c1, a2, m2, c2, ys, rfl, own_moved k1 (fun g cs h1 h2 => hk g cs _ h1 h2 (by decide) (by decide)), own_moved k2 (fun g cs h1 h2 => hk g cs _ h1 h2 (by decide) (by decide)), Parts_moved hk R ys k3⟩
theorem PartsR_moved {w w' : World} {B : Nat} {s : ByteArray} (hk : SameBut B 91 40 w w') : ∀ (R : List RuleP) (xs : List Value), PartsR w B s R xs → PartsR w' 0 s R xs
  | [], _, h => h
  | r :: R, xs, h => by
    obtain ⟨a1, m1, c1, a2, m2, c2, ys, rfl, k1, k2, k3⟩ := h
    exact ⟨a1, m1, c1, a2, m2, c2, ys, rfl, own_moved k1 (fun g cs h1 h2 => hk g cs _ h1 h2 (by decide) (by decide)), own_moved k2 (fun g cs h1 h2 => hk g cs _ h1 h2 (by decide) (by decide)), PartsR_moved hk R ys k3⟩
theorem RulesOwn_moved {w w' : World} {B : Nat} {s : ByteArray} {v : Value} {R : List RuleP} (h : RulesOwn w B s v R) (hk : SameBut B 91 40 w w') : RulesOwn w' 0 s v R := by
  obtain ⟨xs, h1, h2⟩ := h
  exact ⟨xs, own_moved h1 (fun g cs a b => hk g cs _ a b (by decide) (by decide)), Parts_moved hk R xs h2⟩
theorem RefOwn_moved {w w' : World} {B : Nat} {s : ByteArray} {v : Value} {R : List RuleP} (h : RefOwn w B s v R) (hk : SameBut B 91 40 w w') : RefOwn w' 0 s v R := by
  obtain ⟨xs, h1, h2⟩ := h
  exact ⟨xs, own_moved h1 (fun g cs a b => hk g cs _ a b (by decide) (by decide)), PartsR_moved hk R xs h2⟩

theorem RefOwn_mono {w : World} {B B' : Nat} {s : ByteArray} {v : Value} {R : List RuleP} (hb : B' ≤ B) (h : RefOwn w B s v R) : RefOwn w B' s v R := by
  obtain ⟨xs, h1, h2⟩ := h
  refine ⟨xs, own_mono h1 hb, ?_⟩
  clear h1
  induction R generalizing xs with
  | nil => exact h2
  | cons r R ih =>
    obtain ⟨b1, n1, d1, b2, n2, d2, ys, e, k1, k2, k3⟩ := h2
    exact ⟨b1, n1, d1, b2, n2, d2, ys, e, own_mono k1 hb, own_mono k2 hb, ih ys k3⟩

/-- The rules of both engines, never written again. -/
def QR (r : Src) (rv : Value) : Asn := FrozenA fun w => RulesOwn w 0 r.2.1 r.1.1 r.2.2 ∧ RefOwn w 0 r.2.1 rv r.2.2
theorem QR.framed (r : Src) (v : Value) : Framed (QR r v) := FrozenA.framed _
theorem QR.within (r : Src) (v : Value) : Within (QR r v) := FrozenA.within _

/-- The blocks from B on, but for two. -/
def restOf (w : World) (B x y : Nat) : List Nat := (List.range w.heap.size).filter fun g => decide (B ≤ g) && decide (g ≠ x) && decide (g ≠ y)
theorem restOf_mem {w : World} {B x y g : Nat} : g ∈ restOf w B x y ↔ g < w.heap.size ∧ B ≤ g ∧ g ≠ x ∧ g ≠ y := by
  simp [restOf, and_assoc]
theorem restOf_nodup (w : World) (B x y : Nat) : (restOf w B x y).Nodup := List.nodup_range.sublist List.filter_sublist
theorem QR.fresh {rm : Int} {w : World} {B x y : Nat} {s : ByteArray} {v rv : Value} {R : List RuleP} {c1 c2 : Array Value} (h1 : RulesOwn w B s v R) (h2 : RefOwn w B s rv R) (hx : w.heap[x]? = some (.cells c1 91 (0, 0))) (hy : w.heap[y]? = some (.cells c2 40 (0, 0))) :
    QR ((v, rm), s, R) rv w (restOf w B x y) := by
  refine ⟨fun b hb => (restOf_mem.mp hb).1, fun w' h => ?_⟩
  have hk : SameBut B 91 40 w w' := by
    intro g cs t hb hg t1 t2
    refine h g (restOf_mem.mpr ⟨lt_of_block hg, hb, ?_, ?_⟩)
    · intro e; subst e; rw [hx] at hg; simp at hg; exact t1 hg.2.symm
    · intro e; subst e; rw [hy] at hg; simp at hg; exact t2 hg.2.symm
  exact ⟨RulesOwn_moved h1 hk, RefOwn_moved h2 hk⟩

end Go.Proofs.YthlhbjnkohinmaaGreat
