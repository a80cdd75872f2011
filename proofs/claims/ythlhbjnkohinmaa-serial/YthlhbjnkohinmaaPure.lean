/- Lists, and what a cell has at a stamp. -/
import Derived.Test.YthlhbjnkohinmaaPeng
namespace Go.Proofs.Ythlhbjnkohinmaa
open Go.RowKit

theorem inj_of_nodup {α β : Type} {f : α → β} : ∀ {l : List α}, (l.map f).Nodup → ∀ {a b : α}, a ∈ l → b ∈ l → f a = f b → a = b
  | [], _, _, _, h, _, _ => by cases h
  | x :: l, h, a, b, ha, hb, he => by
    rw [List.map_cons, List.nodup_cons] at h
    rcases List.mem_cons.mp ha with e1 | h1 <;> rcases List.mem_cons.mp hb with e2 | h2
    · rw [e1, e2]
    · exact absurd (List.mem_map.mpr ⟨b, h2, by rw [← he, e1]⟩) h.1
    · exact absurd (List.mem_map.mpr ⟨a, h1, by rw [he, e2]⟩) h.1
    · exact inj_of_nodup h.2 h1 h2 he
theorem length_le_of_nodup : ∀ {l m : List Nat}, l.Nodup → (∀ x ∈ l, x ∈ m) → l.length ≤ m.length
  | [], _, _, _ => Nat.zero_le _
  | a :: l, m, hn, hs => by
    rw [List.nodup_cons] at hn
    have h1 : a ∈ m := hs a (by simp)
    have h2 := length_le_of_nodup (l := l) (m := m.erase a) hn.2 (fun x hx => by
      have hx2 := hs x (by simp [hx])
      have : x ≠ a := fun e => hn.1 (e ▸ hx)
      exact (List.mem_erase_of_ne this).mpr hx2)
    rw [List.length_erase_of_mem h1] at h2
    have : 0 < m.length := List.length_pos_of_mem h1
    simp only [List.length_cons]
    omega
theorem filterMap_same {α β : Type} {f g : α → Option β} : ∀ {l : List α}, (∀ x ∈ l, f x = g x) → l.filterMap f = l.filterMap g
  | [], _ => rfl
  | x :: l, h => by
    have h1 := h x (by simp)
    have h2 := filterMap_same (l := l) (fun y hy => h y (by simp [hy]))
    simp only [List.filterMap_cons, h1, h2]
theorem histAt_snoc (h : List (Int × Option Int)) (p : Int × Option Int) (t : Int) : histAt (h ++ [p]) t = if p.1 ≤ t then p.2 else histAt h t := by
  unfold histAt
  simp only [List.reverse_append, List.reverse_cons, List.reverse_nil, List.nil_append, List.singleton_append, List.find?_cons]
  by_cases e : p.1 ≤ t
  · simp [e]
  · simp [e]

theorem histV_snoc (h : List (Int × Option Int)) (p : Int × Option Int) (t : Int) : histV (h ++ [p]) t = if p.1 ≤ t then p else histV h t := by
  unfold histV
  simp only [List.reverse_append, List.reverse_cons, List.reverse_nil, List.nil_append, List.singleton_append, List.find?_cons]
  by_cases e : p.1 ≤ t
  · simp [e]
  · simp [e]

end Go.Proofs.Ythlhbjnkohinmaa
