/- number, braces, often, firstPart of package glob; strings.Cut at one byte. -/
import Derived.Test.YtjeccmmhmdgdgaaGreatDoorGlSpec
import Derived.Test.YtjeccmmhmdgdgaaGreatDoorUtfW
import Derived.IntWalk
import Derived.Deep.Light
import Derived.Deep.QuietTactic
import Derived.BigQuiet
namespace Go.Proofs.YtjeccmmhmdgdgaaGreatDoor
open Go.RowKit
set_option maxRecDepth 100000

theorem size8 (l : List UInt8) : (strOf l).size = l.length := by simp [strOf, ByteArray.size]
theorem str_data (l : List UInt8) : (strOf l).data.toList = l := by simp [strOf]
theorem str_empty (l : List UInt8) : (strOf l).toList.isEmpty = l.isEmpty := by rw [ByteArray.toList_eq, str_data]
theorem cut8 (l : List UInt8) (k : Nat) : (strOf l).extract k (strOf l).size = strOf (l.drop k) := by
  apply ByteArray.ext
  apply Array.toList_inj.1
  rw [Lib.extract_data, size8]
  exact List.take_of_length_le (by show (List.drop k l).length ≤ _; simp)
theorem mid8 (l : List UInt8) (a b : Nat) : (strOf l).extract a b = strOf ((l.take b).drop a) := by
  apply ByteArray.ext
  apply Array.toList_inj.1
  rw [Lib.extract_data]
  show List.take (b - a) (List.drop a l) = List.drop a (List.take b l)
  rw [List.drop_take]
theorem drop_cons (l : List UInt8) (k : Nat) (h : k < (strOf l).size) : l.drop k = ((strOf l)[k]'h) :: l.drop (k + 1) := by
  rw [size8] at h
  rw [List.drop_eq_getElem_cons h]; rfl

set_option maxHeartbeats 4000000 in
theorem number_any (l : List UInt8) (hl : l.length ≤ 1000000000) (w : World) :
    Calls Tryz.prog 104 #[.string (strOf l)] w fun e w' => e = .returned (.int .i64 (numL l)) ∧ w = w' := by
  have HZ := Lib.hid (size8 l)
  have hs : (strOf l).size ≤ 1000000000 := by rw [size8]; exact hl
  by_cases he : l = []
  · subst he
    have hem : (strOf ([] : List UInt8)).toList.isEmpty = true := by rw [str_empty]; rfl
    go_enter Tryz.func104, Tryz.ntmps104
    go_wp2_with fail
    go_ret
    exact ⟨rfl, rfl⟩
  · have hem : (strOf l).toList.isEmpty = false := by rw [str_empty]; simpa using he
    have H0 : Hid (numL l = numGo 0 (l.drop 0)) := by show _ = _; unfold numL; rw [if_neg he]; rfl
    clear he
    go_enter Tryz.func104, Tryz.ntmps104
    go_wp2_with fail
    go_loop [3, 9] (fun m i => ∃ (k : Nat) (n : Int), k ≤ (strOf l).size ∧ i = .int .i64 k ∧ m = .int .i64 n ∧ 0 ≤ n ∧ n < 1000 ∧ Hid (numL l = numGo n (l.drop k))) (fun _ i => (strOf l).size - (intOf i).toNat)
    case atStart => exact ⟨0, 0, Nat.zero_le _, rfl, rfl, by omega, by omega, H0⟩
    case round =>
      obtain ⟨k, n, hk, rfl, rfl, hn0, hn1, HG⟩ := hrel
      by_cases hlt : k < (strOf l).size
      · have HD := Lib.hid (drop_cons l k hlt)
        have hx : (((strOf l)[k]'hlt).toNat : Int) ≤ 255 := by have := ((strOf l)[k]'hlt).toNat_lt; omega
        by_cases h1 : (((strOf l)[k]'hlt).toNat : Int) < 48
        · have HE : Hid (numL l = -1) := by show _ = _; rw [HG.out, HD.out, numGo, if_pos (.inl (by omega))]
          go_wp2_with fail
          go_ret
          exact ⟨by rw [HE.out]; rfl, rfl⟩
        · by_cases h2 : (57 : Int) < (((strOf l)[k]'hlt).toNat : Int)
          · have HE : Hid (numL l = -1) := by show _ = _; rw [HG.out, HD.out, numGo, if_pos (.inr (by omega))]
            go_wp2_with fail
            go_ret
            exact ⟨by rw [HE.out]; rfl, rfl⟩
          · have h1' : (48 : Int) ≤ (((strOf l)[k]'hlt).toNat : Int) := by omega
            have h2' : (((strOf l)[k]'hlt).toNat : Int) ≤ 57 := by omega
            by_cases h3 : 1000 ≤ 10 * n + ((((strOf l)[k]'hlt).toNat : Int) - 48)
            · have HE : Hid (numL l = -1) := by show _ = _; rw [HG.out, HD.out, numGo, if_neg (by omega), if_pos h3]
              go_wp2_with fail
              go_ret
              exact ⟨by rw [HE.out]; rfl, rfl⟩
            · have HE : Hid (numL l = numGo (10 * n + ((((strOf l)[k]'hlt).toNat : Int) - 48)) (l.drop (k + 1))) := by show _ = _; rw [HG.out, HD.out, numGo, if_neg (by omega), if_neg h3]
              have h3' : 10 * n + ((((strOf l)[k]'hlt).toNat : Int) - 48) < 1000 := by omega
              go_wp2_with fail
              go_round
              case rel => exact ⟨k + 1, _, by omega, by go_num, rfl, by omega, by omega, HE⟩
              case measure => simp [intOf]; omega
      · have HE : Hid (numL l = n) := by
          show _ = _
          rw [HG.out, List.drop_eq_nil_of_le (by rw [← size8]; omega)]
          rfl
        go_wp2_with fail
        go_ret
        exact ⟨by rw [HE.out]; rfl, rfl⟩
end Go.Proofs.YtjeccmmhmdgdgaaGreatDoor
