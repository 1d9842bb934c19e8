/- strings.Cut at a comma; braces, often of package glob. -/
import Derived.Test.YtjeccmmhmdgdgaaGreatDoorGlWalk1
namespace Go.Proofs.YtjeccmmhmdgdgaaGreatDoor
open Go.RowKit
set_option maxRecDepth 100000

theorem below_drewN {B : Nat} {a w : World} (h : Below B a w) (n : Nat) : Below B a (w.drewN n) := ⟨h.os, h.tape, h.output, h.size, h.block⟩
theorem take8 (l : List UInt8) (b : Nat) : (strOf l).extract 0 b = strOf (l.take b) := by rw [mid8]; rfl
set_option maxHeartbeats 2000000 in
theorem lcut_any (l : List UInt8) (hl : l.length ≤ 1000000000) (w : World) :
    Calls Tryz.prog 109 #[.string (strOf l), .string ⟨#[44]⟩] w fun e w' => (∃ b, e = .returned (.tuple #[.string (strOf (cutA l (Lib.indexByte l 44))), .string (strOf (cutB l (Lib.indexByte l 44))), .bool b])) ∧ Below w.heap.size w w' := by
  have hi := Tryz.stringslite_Index_one (strOf l) 44
  rw [str_data] at hi
  have hz : (strOf l).size ≤ 1000000000 := by rw [size8]; exact hl
  obtain ⟨hb1, hb2⟩ := indexByte_bd l 44
  rw [← size8 l] at hb2
  generalize Lib.indexByte l 44 = k at *
  have HI := Lib.hid hi
  clear hi
  have HA : Hid (cutA l k = if k < 0 then l else l.take k.toNat) := rfl
  have HB : Hid (cutB l k = if k < 0 then [] else l.drop (k.toNat + 1)) := rfl
  by_cases hk : 0 ≤ k
  · obtain ⟨n, rfl⟩ := Int.eq_ofNat_of_zero_le hk
    have HA2 : Hid (cutA l (n : Int) = l.take n) := by show _ = _; rw [HA.out, if_neg (by omega)]; rfl
    have HB2 : Hid (cutB l (n : Int) = l.drop (n + 1)) := by show _ = _; rw [HB.out, if_neg (by omega)]; rfl
    have hn : n < (strOf l).size := by omega
    have hn1 : n ≤ (strOf l).size := by omega
    have hn2 : n + 1 ≤ (strOf l).size := by omega
    have hn3 : (n : Int) + 1 ≤ ((strOf l).size : Int) := by omega
    have hn4 : ((n : Int) + 1).toNat = n + 1 := by omega
    have e1 := take8 l n
    have e2 := cut8 l (n + 1)
    clear HA HB
    go_enter Tryz.func109, Tryz.ntmps109
    go_wp2_with fail
    refine (HI.out _).mono ?_
    rintro e w1 ⟨rfl, rfl⟩
    go_wp2_with fail
    go_region
    go_wp2_with fail
    go_ret3
    refine ⟨⟨true, ?_⟩, (Below.refl _ _).drew⟩
    rw [HA2.out, HB2.out]
    rfl
  · have HA2 : Hid (cutA l k = l) := by show _ = _; rw [HA.out, if_pos (by omega)]
    have HB2 : Hid (cutB l k = []) := by show _ = _; rw [HB.out, if_pos (by omega)]
    have hk' : k < 0 := by omega
    clear HA HB
    go_enter Tryz.func109, Tryz.ntmps109
    go_wp2_with fail
    refine (HI.out _).mono ?_
    rintro e w1 ⟨rfl, rfl⟩
    go_wp2_with fail
    go_ret3
    refine ⟨⟨false, ?_⟩, Below.refl _ _⟩
    rw [HA2.out, HB2.out]
    rfl
set_option maxHeartbeats 1000000 in
theorem scut_any (l : List UInt8) (hl : l.length ≤ 1000000000) (w : World) :
    Calls Tryz.prog 103 #[.string (strOf l), .string ⟨#[44]⟩] w fun e w' => (∃ b, e = .returned (.tuple #[.string (strOf (cutA l (Lib.indexByte l 44))), .string (strOf (cutB l (Lib.indexByte l 44))), .bool b])) ∧ Below w.heap.size w w' := by
  have HC := Lib.hid (lcut_any l hl w)
  go_enter Tryz.func103, Tryz.ntmps103
  go_wp2_with fail
  refine HC.out.mono ?_
  rintro e w1 ⟨⟨b, rfl⟩, hb1⟩
  go_wp2_with fail
  go_ret3
  exact ⟨⟨b, rfl⟩, hb1⟩
theorem body_len (l : List UInt8) : (bodyL l).length ≤ l.length := by unfold bodyL; simp; omega
theorem cutA_len (l : List UInt8) (k : Int) : (cutA l k).length ≤ l.length := by unfold cutA; split <;> simp; omega
theorem cutB_len (l : List UInt8) (k : Int) : (cutB l k).length ≤ l.length := by unfold cutB; split <;> simp
theorem idx_any (l : List UInt8) (c : UInt8) (ci : Int) (hc : ci = (c.toNat : Int)) (w : World) :
    Calls Tryz.prog 96 #[.string (strOf l), .int .u8 ci] w fun e w' => e = .returned (.int .i64 (Lib.indexByte l c)) ∧ w = w' := by
  subst hc
  refine (Tryz.strings_IndexByte (strOf l) (c.toNat : Int) w).mono ?_
  rintro e w' ⟨rfl, rfl⟩
  refine ⟨?_, rfl⟩
  rw [str_data, Int.toNat_natCast]
  simp
set_option maxHeartbeats 2000000 in
theorem braces_any (l : List UInt8) (hl : l.length ≤ 1000000000) (h0 : 0 < l.length) (hh : l.head? = some 123) (w : World) :
    Calls Tryz.prog 89 #[.string (strOf l)] w fun e w' => e = .returned (.tuple #[.int .i64 (bracesL l).1, .int .i64 (bracesL l).2.1, .int .i64 (bracesL l).2.2]) ∧ Below w.heap.size w w' := by
  have hz : (strOf l).size ≤ 1000000000 := by rw [size8]; exact hl
  have HI := Lib.hid (idx_any l 125 125 rfl)
  have HC := Lib.hid (scut_any (bodyL l) (by have := body_len l; omega))
  have HN1 := Lib.hid (number_any (cutA (bodyL l) (Lib.indexByte (bodyL l) 44)) (by have := cutA_len (bodyL l) (Lib.indexByte (bodyL l) 44); have := body_len l; omega))
  have HN2 := Lib.hid (number_any (cutB (bodyL l) (Lib.indexByte (bodyL l) 44)) (by have := cutB_len (bodyL l) (Lib.indexByte (bodyL l) 44); have := body_len l; omega))
  have HH : Hid (bracesL l = if Lib.indexByte l 125 < 0 then (0, 0, -1) else if braA l < 0 ∨ braB l < braA l then (0, 0, -1) else (braA l, braB l, Lib.indexByte l 125 + 1)) := rfl
  rw [show numL (cutA (bodyL l) (Lib.indexByte (bodyL l) 44)) = braA l from rfl] at HN1
  rw [show numL (cutB (bodyL l) (Lib.indexByte (bodyL l) 44)) = braB l from rfl] at HN2
  obtain ⟨ha1, ha2⟩ : -1 ≤ braA l ∧ braA l < 1000 := numL_bd _
  obtain ⟨hb1, hb2⟩ : -1 ≤ braB l ∧ braB l < 1000 := numL_bd _
  obtain ⟨hk1, hk2⟩ := indexByte_bd l 125
  rw [← size8 l] at hk2
  have hbody : ∀ n : Nat, Lib.indexByte l 125 = (n : Int) → (strOf l).extract 1 n = strOf (bodyL l) := fun n hn => by rw [mid8, bodyL, hn]; rfl
  have hne : Lib.indexByte l 125 ≠ 0 := by
    cases l with
    | nil => simp at h0
    | cons c t =>
      obtain rfl : c = 123 := by simpa using hh
      unfold Lib.indexByte
      rw [if_neg (by decide)]
      have := indexByte_bd t 125
      split
      · omega
      · rename_i h; simp at h; omega
  have hlz : 0 < (strOf l).size := by rw [size8]; exact h0
  generalize Lib.indexByte (bodyL l) 44 = k2 at *
  generalize cutA (bodyL l) k2 = t1 at *
  generalize cutB (bodyL l) k2 = t2 at *
  generalize bodyL l = bl at *
  generalize braA l = a at *
  generalize braB l = b at *
  generalize Lib.indexByte l 125 = k at *
  clear hh
  by_cases hk : k < 0
  · have HE : Hid (bracesL l = (0, 0, -1)) := by show _ = _; rw [HH.out, if_pos hk]
    clear HH hbody
    go_enter Tryz.func89, Tryz.ntmps89
    go_wp2_with fail
    refine (HI.out _).mono ?_
    rintro e w' ⟨rfl, rfl⟩
    go_wp2_with fail
    go_ret3
    exact ⟨by rw [HE.out]; rfl, Below.refl _ _⟩
  · obtain ⟨n, rfl⟩ := Int.eq_ofNat_of_zero_le (by omega : 0 ≤ k)
    have hb := hbody n rfl
    have hn1 : 1 ≤ n := by omega
    have hn2 : n ≤ (strOf l).size := by omega
    have hn3 : (1 : Int) ≤ (n : Int) := by omega
    clear hbody hk hne
    by_cases hc : a < 0 ∨ b < a
    · have HE : Hid (bracesL l = (0, 0, -1)) := by show _ = _; rw [HH.out, if_neg (by omega), if_pos hc]
      clear HH
      rcases (by omega : a < 0 ∨ (0 ≤ a ∧ b < a)) with hc | ⟨hc, hc2⟩
      all_goals
        go_enter Tryz.func89, Tryz.ntmps89
        go_wp2_with fail
        refine (HI.out _).mono ?_
        rintro e w' ⟨rfl, rfl⟩
        go_wp2_with fail
        refine (HC.out _).mono ?_
        rintro e w1 ⟨⟨b, rfl⟩, b1⟩
        go_wp2_with fail
        refine (HN1.out _).mono ?_
        rintro e w' ⟨rfl, rfl⟩
        go_wp2_with fail
        refine (HN2.out _).mono ?_
        rintro e w' ⟨rfl, rfl⟩
        go_wp2_with fail
        go_ret3
        exact ⟨by rw [HE.out]; rfl, b1⟩
    · have HE : Hid (bracesL l = (a, b, (n : Int) + 1)) := by show _ = _; rw [HH.out, if_neg (by omega), if_neg hc]
      have hc1 : 0 ≤ a := by omega
      have hc2 : a ≤ b := by omega
      clear HH hc
      go_enter Tryz.func89, Tryz.ntmps89
      go_wp2_with fail
      refine (HI.out _).mono ?_
      rintro e w' ⟨rfl, rfl⟩
      go_wp2_with fail
      refine (HC.out _).mono ?_
      rintro e w1 ⟨⟨b, rfl⟩, b1⟩
      go_wp2_with fail
      refine (HN1.out _).mono ?_
      rintro e w' ⟨rfl, rfl⟩
      go_wp2_with fail
      refine (HN2.out _).mono ?_
      rintro e w' ⟨rfl, rfl⟩
      go_wp2_with fail
      go_ret3
      exact ⟨by rw [HE.out]; rfl, b1⟩
end Go.Proofs.YtjeccmmhmdgdgaaGreatDoor
