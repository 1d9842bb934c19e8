/- The law's own reckoning of a number's bytes ('put'). -/
import Derived.Test.YthnghgnoonfgiaaDoorHeadWalk
import Derived.WalkKit
import Derived.WalkSpells
import Derived.Outline
namespace Go.Proofs.YthnghgnoonfgiaaDoor
open Go.RowKit
set_option maxRecDepth 100000

/-- 'string([]byte{x})'. -/
theorem conv_one (W : World) (x : Int) (h0 : 0 ≤ x) (h1 : x ≤ 255) : (convert 22 9 (.slice (some ⟨W.heap.size, 0, none⟩) 1 1)).run Tryd.prog (W.alloc (.cells #[.int .u8 x] 5)) = .ok (.string ⟨#[UInt8.ofNat x.toNat]⟩) (W.alloc (.cells #[.int .u8 x] 5)) := by
  have h : BS (W.alloc (.cells #[.int .u8 x] 5)) (W.heap.size + 1) (some ⟨W.heap.size, 0, none⟩) [UInt8.ofNat x.toNat] := fun _ => by
    refine ⟨W.heap.size, 0, rfl, by omega, fun k hk => ?_⟩
    have hk0 : k = 0 := by simpa using hk
    subst hk0
    rw [Nat.zero_add, World.cell?_alloc_mark, at8_eq _ 0 (by simp)]
    simp
    omega
  exact h.conv 1 1 rfl

def strOf (l : List UInt8) : ByteArray := ⟨l.toArray⟩
theorem str_list (l : List UInt8) : (strOf l).toList = l := by rw [ByteArray.toList_eq]; rfl
theorem str_neq (l m : List UInt8) (h : l ≠ m) : (!(strOf l).toList == (strOf m).toList) = true := by rw [str_list, str_list]; simpa using h
theorem str_append (l m : List UInt8) : strOf l ++ strOf m = strOf (l ++ m) := by
  apply ByteArray.ext
  show (strOf l ++ strOf m).data = _
  rw [ByteArray.data_append]
  simp [strOf]
theorem str_cons (c : UInt8) (l : List UInt8) : (⟨#[c]⟩ : ByteArray) ++ strOf l = strOf (c :: l) := str_append [c] l

set_option maxHeartbeats 1000000 in
theorem lawput_any (n : Nat) (hn : n < 18446744073709551616) (w : World) :
    Calls Tryd.prog 11 #[.int .u64 n] w fun e w' => e = .returned (.string (strOf (enc n))) ∧ Below w.heap.size w w' := by
  have hc0 := fun W => conv_one W ((n : Int) % 128) (by omega) (by omega)
  go_enter Tryd.func11, Tryd.ntmps11
  go_wp2_with fail
  go_loopw [0, 3] (fun x s wr => ∃ (y : Nat) (l : List UInt8), y < 18446744073709551616 ∧ x = .int .u64 y ∧ s = .string (strOf l) ∧ hiB y ++ l = enc n ∧ Below w.heap.size w wr) (fun x _ _ => (intOf x).toNat)
  case atStart => exact ⟨n / 128, [UInt8.ofNat (n % 128)], by omega, by go_num, rfl, rfl, (Below.refl _ _).alloc (Nat.le_refl _) _⟩
  case round =>
    obtain ⟨y, l, hy, rfl, rfl, he, hbel⟩ := hrel
    have HE := Lib.hid he
    clear he hc0
    by_cases hp : 0 < y
    · have hp' : (0 : Int) < (y : Int) := by omega
      have hc1 := fun W => conv_one W ((y : Int) % 128 + 128) (by omega) (by omega)
      have hsz : ¬ 9223372036854775807 < 1 + (strOf l).size := by
        have := congrArg List.length HE.out
        have h10 := glen_le10 n hn
        simp only [List.length_append] at this
        have hs : (strOf l).size = l.length := rfl
        unfold glen at h10
        omega
      go_wp2_with fail
      go_roundw
      case rel =>
        refine ⟨y / 128, UInt8.ofNat (y % 128 + 128) :: l, by omega, by go_num, by rw [← str_cons, UInt8.ofNat_add]; rfl, ?_, hbel.alloc hbel.size _⟩
        rw [← HE.out, hiB_pos y (by omega), List.append_assoc]
        rfl
      case measure => simp [intOf]; omega
    · have hy0 : y = 0 := by omega
      subst hy0
      go_wp2
      go_ret
      have := HE.out
      rw [hiB_zero] at this
      exact ⟨by rw [← this]; rfl, hbel⟩
end Go.Proofs.YthnghgnoonfgiaaDoor
