/- A byte of a row of the call's own: read, and written. -/
import Derived.Test.YthnghgnoonfgiaaDoorMem2
namespace Go.Proofs.YthnghgnoonfgiaaDoor
open Go.RowKit

theorem Own8.cell {w : World} {base : Nat} {t : TypeId} {g n c : Nat} {l : List UInt8} (h : Own8 w base t (.slice (some ⟨g, 0, none⟩) n c) l) (i : Nat) (hi : i < l.length) : w.cell? ⟨g, i, none⟩ = some (.int .u8 (at8 l i)) ∧ w.frozen? ⟨g, i, none⟩ = false := by
  rcases h.2 with ⟨h0, _⟩ | ⟨g', cap, cur, hv, hg, hh, hnc, hm, hs, ht⟩
  · cases h0
  · injection hv with h1 h2 h3
    injection h1 with h1
    injection h1 with h1 _ _
    subst h1
    have e := cells8_at l i hi
    rw [← ht, List.getElem?_take_of_lt (by omega)] at e
    exact ⟨by simp only [World.cell?, hh]; simpa using e, by simp [World.frozen?, hh]⟩
theorem cells8_set (l : List UInt8) (i : Nat) (b : UInt8) : cells8 (l.set i b) = (cells8 l).set i (.int .u8 (b.toNat : Int)) := by
  unfold cells8
  rw [List.map_set]
theorem Own8.set_ {w : World} {base : Nat} {t : TypeId} {g n c : Nat} {l : List UInt8} (h : Own8 w base t (.slice (some ⟨g, 0, none⟩) n c) l) (i : Nat) (_hi : i < l.length) (b : UInt8) : Own8 (w.setCell ⟨g, i, none⟩ (.int .u8 (b.toNat : Int))) base t (.slice (some ⟨g, 0, none⟩) n c) (l.set i b) := by
  rcases h.2 with ⟨h0, _⟩ | ⟨g', cap, cur, hv, hg, hh, hnc, hm, hs, ht⟩
  · cases h0
  · injection hv with h1 h2 h3
    injection h1 with h1
    injection h1 with h1 _ _
    subst h1
    subst h3
    refine ⟨by rw [cells8_length]; omega, .inr ⟨g, c, cur.setIfInBounds i (.int .u8 (b.toNat : Int)), by rw [h2, List.length_set], hg, by simp [World.setCell, Array.getElem?_modify, hh], by rw [List.length_set]; exact hnc, hm, by simpa using hs, ?_⟩⟩
    rw [cells8_set, ← ht, List.length_set, Nat.mul_one, Array.toList_setIfInBounds, ← List.take_set]
end Go.Proofs.YthnghgnoonfgiaaDoor
