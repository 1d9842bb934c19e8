/- RowD in one text. -/
import Derived.Test.YtjeccmmhmdgdgaaGreatDoorRows
import Derived.Test.YtjeccmmhmdgdgaaGreatDoorDcSq
import Derived.ProofKit
import Derived.OpenShut
import Derived.SliceStrings
import Derived.Below
/- What the rows of this seat hand the walks: slices of texts, of bytes, as lists. -/
namespace Go.Proofs.YtjeccmmhmdgdgaaGreatDoor
open Dc
open Go.ChangeShapes Go.WideShapes Go.ChangeAt Go.RowKit Go.Sort
set_option maxRecDepth 100000

/-- A slice of texts that came in. -/
def IsStrs (w : World) (a : Option Addr) (len cap : Nat) (ss : List ByteArray) : Prop :=
  (a = none ∧ len = 0 ∧ cap = 0 ∧ ss = []) ∨
  ∃ x, a = some x ∧ len ≤ cap ∧ cap ≤ maxLen ∧ ss.length = cap ∧ (∀ i, i < ss.length → w.cell? (x.add i) = some (.string (ss.getD i ByteArray.empty))) ∧ ∀ s ∈ ss, s.size ≤ maxLen
theorem IsStrs.cs {w : World} {a : Option Addr} {len cap : Nat} {ss : List ByteArray} (h : IsStrs w a len cap ss) : ∃ xs : List (List UInt8), len = xs.length ∧ len ≤ cap ∧ cap ≤ maxLen ∧ CS w w.heap.size a (xs.map encStr) ∧ ∀ x ∈ xs, x.length ≤ maxLen := by
  rcases h with ⟨rfl, rfl, rfl, rfl⟩ | ⟨x, rfl, hl, hm, hz, hc, hw⟩
  · exact ⟨[], rfl, Nat.le_refl _, by decide, CS.nil _ _ _, fun x hx => by simp at hx⟩
  · have hlen : ((ss.take len).map fun s => s.data.toList).length = len := by simp; omega
    refine ⟨(ss.take len).map fun s => s.data.toList, hlen.symm, hl, hm, fun hp => ?_, fun y hy => ?_⟩
    · rw [List.length_map, hlen] at hp
      obtain ⟨b, o, s⟩ := x
      have h0 := hc 0 (by omega)
      have hs : s = none := by simpa [Addr.add] using World.cell?_spot h0
      subst hs
      refine ⟨b, o, rfl, World.block_lt_of_cell? w _ h0, fun k u hu => ?_⟩
      have hk : k < len := by have := (List.getElem?_eq_some_iff.1 hu).1; rw [List.length_map, hlen] at this; exact this
      have e := hc k (by omega)
      rw [add_addr] at e
      rw [e]
      rw [List.getElem?_map, List.getElem?_map, List.getElem?_take_of_lt hk, List.getElem?_eq_getElem (by omega)] at hu
      rw [List.getD_eq_getElem?_getD, List.getElem?_eq_getElem (by omega)]
      rw [← Option.some.inj hu]
      rfl
    · obtain ⟨s, hs, rfl⟩ := List.mem_map.1 hy
      exact hw s (List.mem_of_mem_take hs)
end Go.Proofs.YtjeccmmhmdgdgaaGreatDoor
