/- Options in memory. -/
import Derived.Test.YtjeccmmhmdgdgaaGreatDoorAlW1
import Derived.Deep.RegionHeld
namespace Go.Proofs.YtjeccmmhmdgdgaaGreatDoor
open Go.RowKit
set_option maxRecDepth 100000

theorem cells_below {w w' : World} {b k : Nat} {v : Value} (hb : Below w.heap.size w w') (h : w.cell? ⟨b, k, none⟩ = some v) : w'.cell? ⟨b, k, none⟩ = some v :=
  (hb.cell (p := ⟨b, k, none⟩) (World.block_lt_of_cell? w _ h)).trans h
/-- Options in memory. -/
def OptAt (w : World) (b : Nat) (cs mk st sp wd : Bool) : Prop := w.cell? ⟨b, 0, none⟩ = some (.bool cs) ∧ w.cell? ⟨b, 1, none⟩ = some (.bool mk) ∧ w.cell? ⟨b, 2, none⟩ = some (.bool st) ∧ w.cell? ⟨b, 3, none⟩ = some (.bool sp) ∧ w.cell? ⟨b, 4, none⟩ = some (.bool wd)
theorem OptAt.keep {w w' : World} {b : Nat} {cs mk st sp wd : Bool} (h : OptAt w b cs mk st sp wd) (hb : Below w.heap.size w w') : OptAt w' b cs mk st sp wd :=
  ⟨cells_below hb h.1, cells_below hb h.2.1, cells_below hb h.2.2.1, cells_below hb h.2.2.2.1, cells_below hb h.2.2.2.2⟩
theorem OptAt.new (w : World) (cs mk st sp wd : Bool) : OptAt (w.alloc (.cells #[.bool cs, .bool mk, .bool st, .bool sp, .bool wd] 24)) w.heap.size cs mk st sp wd :=
  ⟨opt_cell w _ _ _ 0 _ rfl (Below.refl _ _), opt_cell w _ _ _ 1 _ rfl (Below.refl _ _), opt_cell w _ _ _ 2 _ rfl (Below.refl _ _), opt_cell w _ _ _ 3 _ rfl (Below.refl _ _), opt_cell w _ _ _ 4 _ rfl (Below.refl _ _)⟩
end Go.Proofs.YtjeccmmhmdgdgaaGreatDoor
