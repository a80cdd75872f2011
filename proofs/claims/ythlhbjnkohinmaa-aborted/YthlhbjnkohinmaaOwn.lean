/- Rows that a slice owns: what every text needs. -/
import Derived.Test.YthlhbjnkohinmaaOv
namespace Go.Proofs.Ythlhbjnkohinmaa
open Go.RowKit

theorem own_ne_ty {w : World} {base : Nat} {e t : TypeId} {size : Nat} {v : Value} {n : Nat} {xs : List Value} {g : Nat} {cs : Array Value} (h : w.ownsRow base e size v n xs) (hk : w.heap[g]? = some (.cells cs t (0, 0))) (ht : e ≠ t) : v.ownBlock ≠ some g := by
  intro hx
  obtain ⟨cs', hc⟩ := own_row_ty h g hx
  rw [hc] at hk; simp at hk; exact ht hk.2
theorem own_rowne2 {w : World} {base : Nat} {e t t' : TypeId} {size : Nat} {v : Value} {n : Nat} {xs : List Value} (h : w.ownsRow base e size v n xs) (ht : t ≠ e) (ht' : t' ≠ e) : ∀ g, v.ownBlock = some g → ∃ cs t'', w.heap[g]? = some (.cells cs t'' (0, 0)) ∧ t ≠ t'' ∧ t' ≠ t'' := by
  intro g hg
  obtain ⟨cs, hcs⟩ := own_row_ty h g hg
  exact ⟨cs, _, hcs, ht, ht'⟩
theorem own_heap {w w' : World} {base : Nat} {e : TypeId} {size : Nat} {v : Value} {n : Nat} {xs : List Value} (h : w.ownsRow base e size v n xs) (hw : w'.heap = w.heap) : w'.ownsRow base e size v n xs := by
  unfold World.ownsRow at h ⊢
  rw [hw]; exact h
theorem cell_heap {w w' : World} (h : w'.heap = w.heap) (a : Addr) : w'.cell? a = w.cell? a := by simp [World.cell?, h]
theorem news_at1 {w : World} {xs : List Value} {t : TypeId} {j : Nat} {u : Value} (h : xs[j]? = some u) : (w.alloc (.cells xs.toArray t)).cell? ((⟨w.heap.size, 0, none⟩ : Addr).add j) = some u := by
  have hadd : (⟨w.heap.size, 0, none⟩ : Addr).add j = ⟨w.heap.size, j, none⟩ := by unfold Addr.add; split <;> simp_all
  rw [hadd, World.cell?_alloc_at _ _ _ _ rfl]
  simpa using h

end Go.Proofs.Ythlhbjnkohinmaa
