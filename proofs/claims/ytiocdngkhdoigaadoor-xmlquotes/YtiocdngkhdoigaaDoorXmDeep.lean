/- XmlDeep answers true. -/
import Derived.Test.YtiocdngkhdoigaaDoorXmRep
import Derived.Test.YtiocdngkhdoigaaDoorXmErr
namespace Go.Proofs.YtiocdngkhdoigaaDoor
open Go.RowKit
set_option maxRecDepth 100000

theorem add8r (a b : L8) : strOf a ++ (⟨b.toArray⟩ : ByteArray) = strOf (a ++ b) := by
  apply ByteArray.ext
  simp [strOf]
theorem and_255 (b : Int) : ∃ n : Nat, bits .and .i64 b 255 = (n : Int) ∧ n ≤ 255 := by
  have h : (BitVec.ofInt 64 b &&& BitVec.ofInt 64 255).toNat ≤ 255 := by
    rw [BitVec.toNat_and]
    exact Nat.le_trans Nat.and_le_right (by decide)
  refine ⟨(BitVec.ofInt 64 b &&& BitVec.ofInt 64 255).toNat, ?_, h⟩
  show IntKind.i64.wrap ((BitVec.ofInt 64 b &&& BitVec.ofInt 64 255).toNat : Int) = _
  rw [IntKind.wrap_i64]
  omega
theorem parse_ok (l : L8) (ns : List Nd) (h : Hid (parseX l = .ok ns)) (hl : l.length ≤ 1000000) (w : World) (hE : Env w) : Calls Tryd.prog 10 #[.string (strOf l)] w fun e w' => ∃ v, e = .returned (.tuple #[v, .int .i64 0]) ∧ NdRow w' w.heap.size v ns ∧ Below w.heap.size w w' := by
  refine (parse_any l hl w hE).mono ?_
  rintro e w1 ⟨b1, ⟨ns', v, hns, rfl, hr⟩ | ⟨c', hns, rfl, _⟩⟩
  · rw [h.out] at hns; injection hns with hns; subst hns; exact ⟨v, rfl, hr, b1⟩
  · rw [h.out] at hns; cases hns
set_option maxHeartbeats 4000000 in
theorem xdeep_walk (a : Int) (w : World) (hE : Env w) :
    Calls Tryd.prog 5 #[.int .i64 a] w fun e w' => e = .returned (.bool true) ∧ Below w.heap.size w w' := by
  have HE := Lib.hid hE
  have h8 : 8 ≤ w.heap.size := hE.2.2.2.2
  clear hE
  obtain ⟨n, hn, hn255⟩ := and_255 a
  have HD := Lib.hid (deep_parse (n + 1) (by omega) (by omega))
  go_enter Tryd.func5, Tryd.ntmps5
  go_wp2_with fail
  refine (head_any _ HE.out).mono ?_
  rintro e w1 ⟨rfl, b1⟩
  have E1 := Lib.hid (HE.out.below h8 b1)
  have HB1 := Lib.hid b1
  clear b1
  go_wp2_with fail
  clear hn
  go_loop [3, 4] (fun s i => ∃ k : Nat, k ≤ n + 1 ∧ i = .int .i64 k ∧ s = .string (strOf (reps k [60, 97, 62]))) (fun _ i => n + 1 - (intOf i).toNat)
  case atStart => exact ⟨0, by omega, rfl, rfl⟩
  case round =>
    obtain ⟨k, hk, rfl, rfl⟩ := hrel
    have hsz : (strOf (reps k [60, 97, 62])).size = 3 * k := by rw [size8, reps_len]; simp; omega
    have hadd : strOf (reps k [60, 97, 62]) ++ (⟨#[60, 97, 62]⟩ : ByteArray) = strOf (reps (k + 1) [60, 97, 62]) := by rw [← reps_snoc]; exact add8r _ _
    by_cases hlt : k < n + 1
    · have hlt2 : (k : Int) < 1 + (n : Int) := by omega
      go_wp2_with fail
      go_round
      case rel => exact ⟨k + 1, by omega, by go_num, rfl⟩
      case measure => simp only [intOf]; omega
    · obtain rfl : k = n + 1 := by omega
      clear hadd hsz
      go_wp2_with fail
      go_loop [3, 5] (fun s i => ∃ k : Nat, k ≤ n + 1 ∧ i = .int .i64 k ∧ s = .string (strOf (reps (n + 1) [60, 97, 62] ++ reps k [60, 47, 97, 62]))) (fun _ i => n + 1 - (intOf i).toNat)
      case atStart => exact ⟨0, by omega, rfl, by rw [reps_zero, List.append_nil]⟩
      case round =>
        obtain ⟨k, hk2, rfl, rfl⟩ := hrel
        have hsz : (strOf (reps (n + 1) [60, 97, 62] ++ reps k [60, 47, 97, 62])).size = 3 * (n + 1) + 4 * k := by rw [size8, List.length_append, reps_len, reps_len]; simp; omega
        have hadd : strOf (reps (n + 1) [60, 97, 62] ++ reps k [60, 47, 97, 62]) ++ (⟨#[60, 47, 97, 62]⟩ : ByteArray) = strOf (reps (n + 1) [60, 97, 62] ++ reps (k + 1) [60, 47, 97, 62]) := by rw [← reps_snoc k, ← List.append_assoc]; exact add8r _ _
        by_cases hlt : k < n + 1
        · have hlt2 : (k : Int) < 1 + (n : Int) := by omega
          go_wp2_with fail
          go_round
          case rel => exact ⟨k + 1, by omega, by go_num, rfl⟩
          case measure => simp only [intOf]; omega
        · obtain rfl : k = n + 1 := by omega
          clear hadd hsz
          have hdl := deep_len (n + 1)
          have HT : Hid (reps (n + 1) [60, 97, 62] ++ reps (n + 1) [60, 47, 97, 62] = deepT (n + 1)) := rfl
          go_wp2_with fail
          by_cases hgt : 100 < n + 1
          · have HP : Hid (parseX (deepT (n + 1)) = .error 12) := by have := HD.out; rw [if_pos hgt] at this; exact this
            refine (parse_err (deepT (n + 1)) 12 HP (by rw [deep_len]; omega) w1 E1.out).mono ?_
            rintro e w2 ⟨rfl, b2⟩
            have HB2 := Lib.hid (HB1.out.trans (b2.mono HB1.out.size))
            have hgi : (100 : Int) < 1 + (n : Int) := by omega
            clear b2 hgt
            go_wp2_with fail
            go_ret
            exact ⟨rfl, HB2.out⟩
          · have hD := HD.out
            rw [if_neg hgt] at hD
            obtain ⟨ns, hns, hlen, hlev⟩ := hD
            refine (parse_ok (deepT (n + 1)) ns hns (by rw [deep_len]; omega) w1 E1.out).mono ?_
            rintro e w2 ⟨v, rfl, hrow, b2⟩
            have HB2 := Lib.hid (HB1.out.trans (b2.mono HB1.out.size))
            obtain ⟨g, c, rfl, hc1, hc2, hcell⟩ := row_cells hrow (by omega)
            obtain ⟨nd, hnd⟩ : ∃ nd, ns[n]? = some nd := ⟨_, List.getElem?_eq_getElem (by omega)⟩
            obtain ⟨av, _, hcs⟩ := hcell n nd hnd
            have d4 : w2.cell? ⟨g, n * 6 + 4, none⟩ = some (.int .i64 (n : Int)) := by rw [hcs 4 _ rfl (by omega), hlev n nd hnd]
            rw [hlen] at hc1 ⊢
            have hgi : ¬ ((100 : Int) < 1 + (n : Int)) := by omega
            have hgi2 : 1 + (n : Int) ≤ 100 := by omega
            have heq : (((n + 1 : Nat) : Int) == 1 + (n : Int)) = true := beq_iff_eq.2 (by omega)
            have heq2 : ((n : Int) + 1 == 1 + (n : Int)) = true := beq_iff_eq.2 (by omega)
            have hsub : 1 + (n : Int) - 1 = (n : Int) := by omega
            have hix : (n : Int) < ((n + 1 : Nat) : Int) := by omega
            clear b2 hgt hrow hcell hcs hlev hns hnd HD
            go_wp2_with fail
            go_ret
            exact ⟨rfl, HB2.out⟩
end Go.Proofs.YtiocdngkhdoigaaDoor
