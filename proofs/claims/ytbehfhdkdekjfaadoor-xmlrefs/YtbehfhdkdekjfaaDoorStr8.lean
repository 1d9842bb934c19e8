/- Texts as lists of bytes: sizes, cuts, heads. -/
import Derived.Test.YtbehfhdkdekjfaaDoorUtfW
namespace Go.Proofs.YtbehfhdkdekjfaaDoor
open Go.RowKit
theorem size8 (l : List UInt8) : (strOf l).size = l.length := by simp [strOf, ByteArray.size]
theorem str_data (l : List UInt8) : (strOf l).data.toList = l := by simp [strOf]
theorem str_empty (l : List UInt8) : (strOf l).toList.isEmpty = l.isEmpty := by rw [ByteArray.toList_eq, str_data]
theorem cut8 (l : List UInt8) (k : Nat) : (strOf l).extract k (strOf l).size = strOf (l.drop k) := by
  apply ByteArray.ext
  apply Array.toList_inj.1
  rw [Lib.extract_data, size8]
  exact List.take_of_length_le (by show (List.drop k l).length ≤ _; simp)
theorem mid8 (l : List UInt8) (a b : Nat) : (strOf l).extract a b = strOf ((l.take b).drop a) := by
  apply ByteArray.ext
  apply Array.toList_inj.1
  rw [Lib.extract_data]
  show List.take (b - a) (List.drop a l) = List.drop a (List.take b l)
  rw [List.drop_take]
theorem drop_cons (l : List UInt8) (k : Nat) (h : k < (strOf l).size) : l.drop k = ((strOf l)[k]'h) :: l.drop (k + 1) := by
  rw [size8] at h
  rw [List.drop_eq_getElem_cons h]; rfl

set_option maxHeartbeats 4000000 in
theorem take8 (l : List UInt8) (b : Nat) : (strOf l).extract 0 b = strOf (l.take b) := by rw [mid8]; rfl
theorem below_drewN {B : Nat} {a w : World} (h : Below B a w) (n : Nat) : Below B a (w.drewN n) := ⟨h.os, h.tape, h.output, h.size, h.block⟩
theorem fz_keep {w w' : World} {B R : Nat} (hb : Below B w w') (hR : R < B) (o : Nat) : w'.frozen? ⟨R, o, none⟩ = w.frozen? ⟨R, o, none⟩ := by
  unfold World.frozen?
  rw [hb.block R hR]
theorem of_data (s : ByteArray) : s = strOf s.data.toList := by cases s; simp [strOf]
theorem next_bd (l : List UInt8) : (nextN l).2 ≤ l.length ∧ (nextN l).1 ≤ 1114111 := by
  obtain ⟨r, k, h⟩ : ∃ r k, nextN l = (r, k) := ⟨_, _, rfl⟩
  rw [h]
  by_cases hk : 0 < k
  · obtain ⟨h1, h2, _⟩ := nextN_some l r k h hk
    exact ⟨h2, h1.1⟩
  · obtain ⟨h1, _⟩ := nextN_zero l r k h (by omega)
    simp; omega
end Go.Proofs.YtbehfhdkdekjfaaDoor
