/- Patterns by the page, as plain functions: how a text is read as parts. No Go in sight. -/
import Derived.Test.YtjeccmmhmdgdgaaGreatDoorSg
import Derived.Test.YtjeccmmhmdgdgaaGreatDoorVd
import Derived.Lib.Bytealg
namespace Go.Proofs.YtjeccmmhmdgdgaaGreatDoor
open Go.Lib
set_option maxRecDepth 100000

/-- A part: is it a dot; its sign; how often at least, at most. -/
abbrev GP := Bool × Int × Int × Int
def maxI : Int := 9223372036854775807
def numGo (n : Int) : List UInt8 → Int
  | [] => n
  | c :: t => if c.toNat < 48 ∨ 57 < c.toNat then -1 else if 1000 ≤ 10 * n + ((c.toNat : Int) - 48) then -1 else numGo (10 * n + ((c.toNat : Int) - 48)) t
def numL (s : List UInt8) : Int := if s = [] then -1 else numGo 0 s
def cutA (s : List UInt8) (k : Int) : List UInt8 := if k < 0 then s else s.take k.toNat
def cutB (s : List UInt8) (k : Int) : List UInt8 := if k < 0 then [] else s.drop (k.toNat + 1)
def bodyL (s : List UInt8) : List UInt8 := (s.take (indexByte s 125).toNat).drop 1
def braA (s : List UInt8) : Int := numL (cutA (bodyL s) (indexByte (bodyL s) 44))
def braB (s : List UInt8) : Int := numL (cutB (bodyL s) (indexByte (bodyL s) 44))
def bracesL (s : List UInt8) : Int × Int × Int :=
  if indexByte s 125 < 0 then (0, 0, -1) else if braA s < 0 ∨ braB s < braA s then (0, 0, -1) else (braA s, braB s, indexByte s 125 + 1)
def oftenL (r : List UInt8) : Int × Int × Int :=
  if r = [] then (1, 1, 0) else if r.head? = some 63 then (0, 1, 1) else if r.head? = some 43 then (1, maxI, 1) else if r.head? = some 42 then (0, maxI, 1) else if r.head? = some 123 then bracesL r else (1, 1, 0)
def firstL (t : List UInt8) : GP × Int :=
  if t.head? = some 46 then (if (oftenL (t.drop 1)).2.2 < 0 then ((false, 0, 0, 0), 0) else ((true, 0, (oftenL (t.drop 1)).1, (oftenL (t.drop 1)).2.1), 1 + (oftenL (t.drop 1)).2.2))
  else if t.head? = some 92 then (if (nextN (t.drop 1)).2 = 0 then ((false, 0, 0, 0), 0) else ((false, ((nextN (t.drop 1)).1 : Int), 0, 0), 1 + ((nextN (t.drop 1)).2 : Int)))
  else ((false, ((nextN t).1 : Int), 0, 0), ((nextN t).2 : Int))
def parseL : Nat → List UInt8 → List GP → Except Int (List GP)
  | 0, _, acc => .ok acc
  | f + 1, t, acc => if t = [] then .ok acc else if acc.length = 200 then .error 3 else if (firstL t).2 = 0 then .error 20 else parseL f (t.drop (firstL t).2.toNat) (acc ++ [(firstL t).1])

theorem indexByte_bd : ∀ (s : List UInt8) (c : UInt8), -1 ≤ indexByte s c ∧ indexByte s c < s.length
  | [], _ => by simp [indexByte]
  | b :: l, c => by
    have ih := indexByte_bd l c
    unfold indexByte
    rw [List.length_cons]
    split
    · omega
    · split
      · omega
      · omega
theorem numGo_bd : ∀ (s : List UInt8) (n : Int), 0 ≤ n → n < 1000 → -1 ≤ numGo n s ∧ numGo n s < 1000
  | [], n, h0, h1 => by unfold numGo; omega
  | c :: t, n, h0, h1 => by
    unfold numGo
    split
    · omega
    · split
      · omega
      · exact numGo_bd t _ (by omega) (by omega)
theorem numL_bd (s : List UInt8) : -1 ≤ numL s ∧ numL s < 1000 := by
  unfold numL
  split
  · omega
  · exact numGo_bd s 0 (by omega) (by omega)
theorem often_bd (r : List UInt8) : -1 ≤ (oftenL r).2.2 ∧ (oftenL r).2.2 ≤ r.length ∧ 0 ≤ (oftenL r).1 ∧ (oftenL r).1 ≤ 1000 ∧ 0 ≤ (oftenL r).2.1 ∧ (oftenL r).2.1 ≤ maxI := by
  have hm : maxI = 9223372036854775807 := rfl
  have key : ∀ (a : UInt8), r.head? = some a → 1 ≤ r.length := fun a h => by cases r <;> simp at h ⊢
  unfold oftenL
  split
  · simp; omega
  · split
    · have := key _ ‹_›; simp; omega
    · split
      · have := key _ ‹_›; simp; omega
      · split
        · have := key _ ‹_›; simp; omega
        · split
          · unfold bracesL
            have h1 := indexByte_bd r 125
            have h2 := numL_bd (cutA (bodyL r) (indexByte (bodyL r) 44))
            have h3 := numL_bd (cutB (bodyL r) (indexByte (bodyL r) 44))
            unfold braA braB
            split
            · simp; omega
            · split
              · simp; omega
              · simp; omega
          · simp; omega
theorem next_bd (l : List UInt8) : (nextN l).2 ≤ l.length ∧ (nextN l).1 ≤ 1114111 := by
  obtain ⟨r, k, h⟩ : ∃ r k, nextN l = (r, k) := ⟨_, _, rfl⟩
  rw [h]
  by_cases hk : 0 < k
  · obtain ⟨h1, h2, _⟩ := nextN_some l r k h hk
    exact ⟨h2, h1.1⟩
  · obtain ⟨h1, _⟩ := nextN_zero l r k h (by omega)
    simp; omega
theorem first_bd (t : List UInt8) (ht : t ≠ []) : 0 ≤ (firstL t).2 ∧ (firstL t).2 ≤ t.length ∧ 0 ≤ (firstL t).1.2.1 ∧ (firstL t).1.2.1 ≤ 1114111 ∧ 0 ≤ (firstL t).1.2.2.1 ∧ (firstL t).1.2.2.1 ≤ 1000 ∧ 0 ≤ (firstL t).1.2.2.2 ∧ (firstL t).1.2.2.2 ≤ maxI := by
  have hm : maxI = 9223372036854775807 := rfl
  have hp := List.length_pos_iff.2 ht
  have h1 := often_bd (t.drop 1)
  have h2 := next_bd (t.drop 1)
  have h3 := next_bd t
  rw [List.length_drop] at h1 h2
  unfold firstL
  split
  · split
    · simp; omega
    · simp only; omega
  · split
    · split
      · simp; omega
      · simp only; omega
    · simp only; omega
end Go.Proofs.YtjeccmmhmdgdgaaGreatDoor
