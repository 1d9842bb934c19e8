/- vowel, Measure, endsOpen of package stem. -/
import Derived.Test.YtjeccmmhmdgdgaaGreatDoorChecked
import Derived.Test.YtjeccmmhmdgdgaaGreatDoorMem
import Derived.Test.YtjeccmmhmdgdgaaGreatDoorAsSpec
import Derived.Test.YtjeccmmhmdgdgaaGreatDoorShelf
import Derived.WalkKit
import Derived.WalkSpells
import Derived.Deep.Light
import Derived.Deep.QuietTactic
import Derived.BigQuiet
import Derived.Outline
import Derived.Lib.Hide
namespace Go.Proofs.YtjeccmmhmdgdgaaGreatDoor.St
open Go.RowKit
set_option maxRecDepth 100000

theorem size8 (l : List UInt8) : (strOf l).size = l.length := by simp [strOf, ByteArray.size]
def vowI (n : Int) (f b : Bool) : Bool := if n = 97 ∨ n = 101 ∨ n = 105 ∨ n = 111 ∨ n = 117 then true else if n = 121 then (!f && !b) else false
theorem u8_eq (c : UInt8) (k : Nat) (h : k < 256) : (c == UInt8.ofNat k) = decide ((c.toNat : Int) = k) := by
  rw [Bool.eq_iff_iff, beq_iff_eq, decide_eq_true_eq, ← UInt8.toNat_inj, UInt8.toNat_ofNat']
  omega
theorem vow_eq (c : UInt8) (f b : Bool) : vowI (c.toNat : Int) f b = vow c f b := by
  unfold vow isV vowI
  have h1 : (c == 97) = decide ((c.toNat : Int) = 97) := u8_eq c 97 (by omega)
  have h2 : (c == 101) = decide ((c.toNat : Int) = 101) := u8_eq c 101 (by omega)
  have h3 : (c == 105) = decide ((c.toNat : Int) = 105) := u8_eq c 105 (by omega)
  have h4 : (c == 111) = decide ((c.toNat : Int) = 111) := u8_eq c 111 (by omega)
  have h5 : (c == 117) = decide ((c.toNat : Int) = 117) := u8_eq c 117 (by omega)
  have h6 : (c == 121) = decide ((c.toNat : Int) = 121) := u8_eq c 121 (by omega)
  rw [h1, h2, h3, h4, h5, h6]
  generalize (c.toNat : Int) = n
  by_cases e : n = 97 ∨ n = 101 ∨ n = 105 ∨ n = 111 ∨ n = 117
  · rw [if_pos e]; rcases e with rfl | rfl | rfl | rfl | rfl <;> rfl
  · rw [if_neg e]
    by_cases e2 : n = 121
    · subst e2; simp
    · rw [if_neg e2]
      have d1 : n ≠ 97 := by omega
      have d2 : n ≠ 101 := by omega
      have d3 : n ≠ 105 := by omega
      have d4 : n ≠ 111 := by omega
      have d5 : n ≠ 117 := by omega
      simp [d1, d2, d3, d4, d5, e2]

set_option maxHeartbeats 1000000 in
theorem vowelI_any (n : Int) (f b : Bool) (w : World) :
    Calls Tryz.prog 92 #[.int .u8 n, .bool f, .bool b] w fun e w' => e = .returned (.bool (vowI n f b)) ∧ w = w' := by
  go_enter Tryz.func92, Tryz.ntmps92
  go_wp2
  all_goals
    go_ret
    refine ⟨ret_bool ?_, rfl⟩
    go_light
    simp_all [vowI]
theorem vowel_is (c : UInt8) (f b v : Bool) (h : Hid (vow c f b = v)) (w : World) :
    Calls Tryz.prog 92 #[.int .u8 (c.toNat : Int), .bool f, .bool b] w fun e w' => e = .returned (.bool v) ∧ w = w' := by
  have h' := h.out
  subst h'
  rw [← vow_eq]
  exact vowelI_any _ f b w
theorem take_snoc' (l : List UInt8) (k : Nat) (h : k < (strOf l).size) : l.take (k + 1) = l.take k ++ [(strOf l)[k]] := by
  rw [size8] at h
  rw [List.take_succ_eq_append_getElem h]; rfl

set_option maxHeartbeats 2000000 in
theorem measure_any (l : List UInt8) (hl : l.length ≤ 1000000000) (w : World) :
    Calls Tryz.prog 71 #[.string (strOf l)] w fun e w' => e = .returned (.int .i64 (measL l)) ∧ w = w' := by
  have HZ := Lib.hid (size8 l)
  have hs : (strOf l).size ≤ 1000000000 := by rw [size8]; exact hl
  go_enter Tryz.func71, Tryz.ntmps71
  go_wp2_with fail
  go_loop [3, 4, 9] (fun n b i => ∃ k : Nat, k ≤ (strOf l).size ∧ i = .int .i64 k ∧ b = .bool (openL (l.take k)) ∧ n = .int .i64 (measL (l.take k))) (fun _ _ i => (strOf l).size - (intOf i).toNat)
  case atStart => exact ⟨0, Nat.zero_le _, rfl, rfl, rfl⟩
  case round =>
    obtain ⟨k, hk, rfl, rfl, rfl⟩ := hrel
    have hm : measL (l.take k) ≤ 1000000000 := by have := measL_le (l.take k); have := List.length_take_le k l; omega
    by_cases hlt : k < (strOf l).size
    · have HT := Lib.hid (take_snoc' l k hlt)
      obtain ⟨a, ha⟩ : ∃ a, a = openL (l.take k) := ⟨_, rfl⟩
      obtain ⟨v, hv⟩ : ∃ v, v = openL (l.take (k + 1)) := ⟨_, rfl⟩
      have hf : ((k : Int) == 0) = (l.take k).isEmpty := by
        rw [size8] at hlt
        cases l with
        | nil => simp at hlt
        | cons c t => cases k with
          | zero => rfl
          | succ k => simp; omega
      have HV : Hid (vow (strOf l)[k] ((k : Int) == 0) a = v) := by
        show _ = _
        rw [hv, HT.out, openL_snoc, ha, hf]
      have HM : Hid (measL (l.take (k + 1)) = if a && !v then measL (l.take k) + 1 else measL (l.take k)) := by
        show _ = _
        rw [hv, ha, HT.out, measL_snoc]
      have HH := Lib.hid hv
      rw [← ha]
      clear hf ha hv
      cases a <;> cases v
      all_goals
        go_wp2_with fail
        refine (vowel_is _ _ _ _ HV _).mono ?_
        rintro e w' ⟨rfl, rfl⟩
        go_wp2_with fail
        go_round
        case rel => exact ⟨k + 1, by omega, by go_num, by rw [← HH.out], by rw [HM.out]; first | rfl | go_num⟩
        case measure => simp [intOf]; omega
    · have he : l.take k = l := List.take_of_length_le (by rw [size8] at hlt; omega)
      have HE := Lib.hid he
      clear he
      go_wp2_with fail
      go_ret
      exact ⟨by rw [HE.out]; rfl, rfl⟩

set_option maxHeartbeats 2000000 in
theorem open_any (l : List UInt8) (hl : l.length ≤ 1000000000) (w : World) :
    Calls Tryz.prog 97 #[.string (strOf l)] w fun e w' => e = .returned (.bool (openL l)) ∧ w = w' := by
  have HZ := Lib.hid (size8 l)
  have hs : (strOf l).size ≤ 1000000000 := by rw [size8]; exact hl
  go_enter Tryz.func97, Tryz.ntmps97
  go_wp2_with fail
  go_loop [3, 7] (fun b i => ∃ k : Nat, k ≤ (strOf l).size ∧ i = .int .i64 k ∧ b = .bool (openL (l.take k))) (fun _ i => (strOf l).size - (intOf i).toNat)
  case atStart => exact ⟨0, Nat.zero_le _, rfl, rfl⟩
  case round =>
    obtain ⟨k, hk, rfl, rfl⟩ := hrel
    by_cases hlt : k < (strOf l).size
    · have HT := Lib.hid (take_snoc' l k hlt)
      obtain ⟨a, ha⟩ : ∃ a, a = openL (l.take k) := ⟨_, rfl⟩
      obtain ⟨v, hv⟩ : ∃ v, v = openL (l.take (k + 1)) := ⟨_, rfl⟩
      have hf : ((k : Int) == 0) = (l.take k).isEmpty := by
        rw [size8] at hlt
        cases l with
        | nil => simp at hlt
        | cons c t => cases k with
          | zero => rfl
          | succ k => simp; omega
      have HV : Hid (vow (strOf l)[k] ((k : Int) == 0) a = v) := by
        show _ = _
        rw [hv, HT.out, openL_snoc, ha, hf]
      have HH := Lib.hid hv
      rw [← ha]
      clear hf ha hv
      go_wp2_with fail
      refine (vowel_is _ _ _ _ HV _).mono ?_
      rintro e w' ⟨rfl, rfl⟩
      go_wp2_with fail
      go_round
      case rel => exact ⟨k + 1, by omega, by go_num, by rw [← HH.out]⟩
      case measure => simp [intOf]; omega
    · have he : l.take k = l := List.take_of_length_le (by rw [size8] at hlt; omega)
      have HE := Lib.hid he
      clear he
      go_wp2_with fail
      go_ret
      exact ⟨by rw [HE.out]; rfl, rfl⟩
end Go.Proofs.YtjeccmmhmdgdgaaGreatDoor.St
