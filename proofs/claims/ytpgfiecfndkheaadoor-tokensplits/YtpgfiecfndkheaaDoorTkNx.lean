/- utf.Next; texts as lists of bytes (for a seat without utf.Right and utf.Put). -/
import Derived.Test.YtpgfiecfndkheaaDoorChecked
import Derived.Test.YtpgfiecfndkheaaDoorShelf
import Derived.Test.YtpgfiecfndkheaaDoorSg
import Derived.Test.YtpgfiecfndkheaaDoorMem2
import Derived.WalkKit
import Derived.WalkSpells
import Derived.Outline
import Derived.Lib.Hide
namespace Go.Proofs.YtpgfiecfndkheaaDoor
open Go.RowKit
set_option maxRecDepth 100000

def strOf (l : List UInt8) : ByteArray := ⟨l.toArray⟩
def signB (r : Int) : Bool := decide (0 ≤ r ∧ r ≤ 1114111 ∧ ¬ (55296 ≤ r ∧ r ≤ 57343))
theorem signB_nat (r : Nat) : signB (r : Int) = decide (isSign r) := by
  unfold signB isSign
  by_cases h : r ≤ 1114111 ∧ ¬ (55296 ≤ r ∧ r ≤ 57343)
  · rw [decide_eq_true h, decide_eq_true (by omega)]
  · rw [decide_eq_false h, decide_eq_false (by omega)]

/-- The library's two tables in memory. -/
abbrev UT (w : World) : Prop := Lib.Utf8Tabs 0 1 w

theorem next_any (l : List UInt8) (w : World) (hT : UT w) :
    Calls Tryd.prog 13 #[.string (strOf l)] w fun e w' => e = .returned (.tuple #[.int .i32 (nextN l).1, .int .i64 (nextN l).2]) ∧ Below w.heap.size w w' := by
  have hd := Tryd.utf8_DecodeRuneInString (strOf l) w hT
  rw [show Lib.decodeGo (strOf l) = decL l from decodeGo_eq l] at hd
  have HD := Lib.hid hd
  clear hd
  obtain ⟨r, k, hrk⟩ : ∃ r k, decL l = (r, k) := ⟨_, _, rfl⟩
  have HN : Hid (nextN l = if r = 65533 ∧ k < 2 then (0, 0) else (r, k)) := by show _ = _; unfold nextN; rw [hrk]
  rw [hrk] at HD
  have HD2 := HD
  clear hrk HD
  by_cases h1 : r = 65533
  · subst h1
    by_cases h2 : k < 2
    · have hk : (k : Int) < 2 := by omega
      have HN2 : Hid (nextN l = (0, 0)) := by show _ = _; rw [HN.out, if_pos ⟨rfl, h2⟩]
      go_enter Tryd.func13, Tryd.ntmps13
      go_wp2_with fail
      refine HD2.out.mono ?_
      rintro e w1 ⟨rfl, hb1⟩
      simp only
      go_wp2_with fail
      go_ret2
      rw [HN2.out]
      exact ⟨rfl, hb1⟩
    · have hk : ¬ (k : Int) < 2 := by omega
      have HN2 : Hid (nextN l = (65533, k)) := by show _ = _; rw [HN.out, if_neg (fun h => h2 h.2)]
      go_enter Tryd.func13, Tryd.ntmps13
      go_wp2_with fail
      refine HD2.out.mono ?_
      rintro e w1 ⟨rfl, hb1⟩
      simp only
      go_wp2_with fail
      go_ret2
      rw [HN2.out]
      exact ⟨rfl, hb1⟩
  · have hr : ((r : Int) == 65533) = false := by simp; omega
    have HN2 : Hid (nextN l = (r, k)) := by show _ = _; rw [HN.out, if_neg (fun h => h1 h.1)]
    go_enter Tryd.func13, Tryd.ntmps13
    go_wp2_with fail
    refine HD2.out.mono ?_
    rintro e w1 ⟨rfl, hb1⟩
    simp only
    go_wp2_with fail
    go_ret2
    rw [HN2.out]
    exact ⟨rfl, hb1⟩

theorem size8 (l : List UInt8) : (strOf l).size = l.length := by simp [strOf, ByteArray.size]
theorem str_data (l : List UInt8) : (strOf l).data.toList = l := by simp [strOf]
theorem str_empty (l : List UInt8) : (strOf l).toList.isEmpty = l.isEmpty := by rw [ByteArray.toList_eq, str_data]
theorem cut8 (l : List UInt8) (k : Nat) : (strOf l).extract k (strOf l).size = strOf (l.drop k) := by
  apply ByteArray.ext
  apply Array.toList_inj.1
  rw [Lib.extract_data, size8]
  exact List.take_of_length_le (by show (List.drop k l).length ≤ _; simp)
theorem mid8 (l : List UInt8) (a b : Nat) : (strOf l).extract a b = strOf ((l.take b).drop a) := by
  apply ByteArray.ext
  apply Array.toList_inj.1
  rw [Lib.extract_data]
  show List.take (b - a) (List.drop a l) = List.drop a (List.take b l)
  rw [List.drop_take]
theorem drop_cons (l : List UInt8) (k : Nat) (h : k < (strOf l).size) : l.drop k = ((strOf l)[k]'h) :: l.drop (k + 1) := by
  rw [size8] at h
  rw [List.drop_eq_getElem_cons h]; rfl

set_option maxHeartbeats 4000000 in
theorem take8 (l : List UInt8) (b : Nat) : (strOf l).extract 0 b = strOf (l.take b) := by rw [mid8]; rfl
theorem below_drewN {B : Nat} {a w : World} (h : Below B a w) (n : Nat) : Below B a (w.drewN n) := ⟨h.os, h.tape, h.output, h.size, h.block⟩
theorem fz_keep {w w' : World} {B R : Nat} (hb : Below B w w') (hR : R < B) (o : Nat) : w'.frozen? ⟨R, o, none⟩ = w.frozen? ⟨R, o, none⟩ := by
  unfold World.frozen?
  rw [hb.block R hR]
theorem of_data (s : ByteArray) : s = strOf s.data.toList := by cases s; simp [strOf]
theorem next_bd (l : List UInt8) : (nextN l).2 ≤ l.length ∧ (nextN l).1 ≤ 1114111 := by
  obtain ⟨r, k, h⟩ : ∃ r k, nextN l = (r, k) := ⟨_, _, rfl⟩
  rw [h]
  by_cases hk : 0 < k
  · obtain ⟨h1, h2, _⟩ := nextN_some l r k h hk
    exact ⟨h2, h1.1⟩
  · obtain ⟨h1, _⟩ := nextN_zero l r k h (by omega)
    simp; omega
end Go.Proofs.YtpgfiecfndkheaaDoor
