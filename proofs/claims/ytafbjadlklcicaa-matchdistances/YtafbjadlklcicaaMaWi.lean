/- (Match).with. -/
import Derived.Test.YtafbjadlklcicaaMaCl
namespace Go.Proofs.Ytafbjadlklcicaa
open Go.RowKit
set_option maxRecDepth 100000

theorem SV.cs {w : World} {B : Nat} {A : Option Addr} {n c : Nat} {l : List Sp} (h : SV w B (.slice A n c) l) : n = l.length ∧ CS w B A (spCs l) := by
  obtain ⟨A', c', e, _, _, h3⟩ := h
  injection e with e1 e2 e3
  subst e1 e3
  exact ⟨e2, h3⟩
theorem keep4 (W : World) (a : Nat) (u0 u1 x0 x1 x2 x3 : Value) (h : W.cell? ⟨a, 0, none⟩ = some x0 ∧ W.cell? ⟨a, 1, none⟩ = some x1 ∧ W.cell? ⟨a + 1, 0, none⟩ = some x2 ∧ W.cell? ⟨a + 1, 1, none⟩ = some x3) :
    ((W.setCell ⟨a + 1 + 1, 0, none⟩ u0).setCell ⟨a + 1 + 1, 1, none⟩ u1).cell? ⟨a, 0, none⟩ = some x0 ∧ ((W.setCell ⟨a + 1 + 1, 0, none⟩ u0).setCell ⟨a + 1 + 1, 1, none⟩ u1).cell? ⟨a, 1, none⟩ = some x1 ∧ ((W.setCell ⟨a + 1 + 1, 0, none⟩ u0).setCell ⟨a + 1 + 1, 1, none⟩ u1).cell? ⟨a + 1, 0, none⟩ = some x2 ∧ ((W.setCell ⟨a + 1 + 1, 0, none⟩ u0).setCell ⟨a + 1 + 1, 1, none⟩ u1).cell? ⟨a + 1, 1, none⟩ = some x3 := by
  refine ⟨?_, ?_, ?_, ?_⟩
  · rw [World.cell?_setCell_other _ _ _ _ (by intro e; injection e with e _; omega), World.cell?_setCell_other _ _ _ _ (by intro e; injection e with e _; omega)]; exact h.1
  · rw [World.cell?_setCell_other _ _ _ _ (by intro e; injection e with e _; omega), World.cell?_setCell_other _ _ _ _ (by intro e; injection e with e _; omega)]; exact h.2.1
  · rw [World.cell?_setCell_other _ _ _ _ (by intro e; injection e with e _; omega), World.cell?_setCell_other _ _ _ _ (by intro e; injection e with e _; omega)]; exact h.2.2.1
  · rw [World.cell?_setCell_other _ _ _ _ (by intro e; injection e with e _; omega), World.cell?_setCell_other _ _ _ _ (by intro e; injection e with e _; omega)]; exact h.2.2.2
/-- Two blocks of two cells, one behind the other. -/
theorem box2n (w : World) (o : Obj) (z0 z1 : Value) (t : TypeId) : ((w.alloc o).alloc (.cells #[z0, z1] t)).cell? ⟨w.heap.size + 1, 0, none⟩ = some z0 ∧ ((w.alloc o).alloc (.cells #[z0, z1] t)).cell? ⟨w.heap.size + 1, 1, none⟩ = some z1 := by
  have h := box2 (w.alloc o) z0 z1 t
  rw [show (w.alloc o).heap.size = w.heap.size + 1 by simp] at h
  exact h
theorem box2o (w : World) (o : Obj) (z0 z1 : Value) (t : TypeId) : ((w.alloc (.cells #[z0, z1] t)).alloc o).cell? ⟨w.heap.size, 0, none⟩ = some z0 ∧ ((w.alloc (.cells #[z0, z1] t)).alloc o).cell? ⟨w.heap.size, 1, none⟩ = some z1 := by
  have h := box2 w z0 z1 t
  have b : Below (w.alloc (.cells #[z0, z1] t)).heap.size (w.alloc (.cells #[z0, z1] t)) ((w.alloc (.cells #[z0, z1] t)).alloc o) := (Below.refl _ _).alloc (Nat.le_refl _) _
  exact ⟨(b.cell (p := ⟨w.heap.size, 0, none⟩) (by simp)).trans h.1, (b.cell (p := ⟨w.heap.size, 1, none⟩) (by simp)).trans h.2⟩
end Go.Proofs.Ytafbjadlklcicaa
