/- UtfNexts: it answers true; nothing that was there is written. -/
import Derived.Test.YthnghgnoonfgiabDoorNextWalk
import Derived.Deep.RegionHeld3
import Derived.WalkKit
import Derived.Deep.QuietTactic
import Derived.BigQuiet
import Derived.WalkSpells
import Derived.Outline
import Derived.Lib.Hide
namespace Go.Proofs.YthnghgnoonfgiabDoor
open Go.RowKit
set_option maxRecDepth 100000

theorem UT.below' {w w' : World} (h : UT w) (hb : Below w.heap.size w w') : UT w' := by
  obtain ⟨h1, h2⟩ := h
  have keep : ∀ b o v, w.cell? ⟨b, o, none⟩ = some v → w'.cell? ⟨b, o, none⟩ = some v := fun b o v hc => (hb.cell (p := ⟨b, o, none⟩) (World.block_lt_of_cell? w _ hc)).trans hc
  exact ⟨fun c hc => keep _ _ _ (h1 c hc), fun i hi => ⟨keep _ _ _ (h2 i hi).1, keep _ _ _ (h2 i hi).2⟩⟩

set_option maxHeartbeats 2000000 in
theorem nexts_some (l : List UInt8) (r k : Nat) (w : World) (hT : UT w) (hl : l.length ≤ 50) (HN : Hid (nextN l = (r, k))) (hk : 0 < k) :
    Calls Tryd.prog 4 #[.string (strOf l)] w fun e w' => e = .returned (.bool true) ∧ Below w.heap.size w w' := by
  obtain ⟨hs, hkl, htk⟩ := nextN_some l r k HN.out hk
  have HB := Lib.hid (fun W => bytes_any r hs W)
  have hsg : signB (r : Int) = true := by rw [signB_nat]; exact decide_eq_true hs
  have hsz : (strOf l).size = l.length := by simp [strOf, ByteArray.size]
  have hlen : ((strOf l).size : Int) ≤ 50 := by omega
  have hks : k ≤ (strOf l).size := by omega
  have hext : (strOf l).extract 0 k = strOf (encS r) := by
    rw [← htk]
    apply ByteArray.ext
    apply Array.toList_inj.1
    rw [Lib.extract_data]
    simp [strOf]
  clear hs hkl htk hsz
  go_enter Tryd.func4, Tryd.ntmps4
  go_wp2_with fail
  refine (head_any w).mono ?_
  rintro e w1 ⟨rfl, rfl⟩
  go_wp2_with fail
  refine (next_any l w hT).mono ?_
  rw [HN.out]
  rintro e w2 ⟨rfl, hb2⟩
  simp only
  go_wp2_with fail
  go_region_held3 (fun W => Below w2.heap.size w2 W)
    (first | exact (Below.refl _ _).drew | exact (Below.refl _ _).drew.trans hb4 | assumption)
    (first | (go_at_call 8; (with_reducible refine (sign_any _ _).mono ?_); rintro e w' ⟨rfl, rfl⟩) | (go_at_call 10; (with_reducible refine (HB.out _).mono ?_); rintro e w4 ⟨rfl, hb4⟩))
  go_wp2_with fail
  go_ret
  exact ⟨rfl, hb2.trans (((Below.refl _ _).drew.trans hb4).mono hb2.size)⟩

/-- How great a number of i bytes may be. -/
def bnd (i : Nat) : Nat := if i ≤ 1 then 256 else if i = 2 then 16384 else if i = 3 then 1048576 else 67108864
theorem bnd_le (i : Nat) : bnd i ≤ 67108864 := by unfold bnd; split <;> (try split) <;> (try split) <;> omega
theorem bnd_next (i v b : Nat) (h1 : 1 ≤ i) (h3 : i ≤ 3) (h : v < bnd i) : v * 64 + b % 64 < bnd (i + 1) := by
  unfold bnd at h ⊢
  have : i = 1 ∨ i = 2 ∨ i = 3 := by omega
  rcases this with rfl | rfl | rfl <;> simp at h ⊢ <;> omega
theorem and_small (a : Nat) (x : Int) (ha : a < 256) : ∃ q : Nat, bits .and .i64 (a : Int) x = (q : Int) ∧ q < 256 := by
  refine ⟨(BitVec.ofInt 64 (a : Int) &&& BitVec.ofInt 64 x).toNat, ?_, ?_⟩
  · show IntKind.i64.wrap ((BitVec.ofInt 64 (a : Int) &&& BitVec.ofInt 64 x).toNat : Int) = _
    have h : (BitVec.ofInt 64 (a : Int) &&& BitVec.ofInt 64 x).toNat ≤ a := by
      rw [BitVec.toNat_and]
      refine Nat.le_trans Nat.and_le_left ?_
      rw [BitVec.ofInt_natCast, BitVec.toNat_ofNat]
      exact Nat.mod_le _ _
    rw [IntKind.wrap_i64]
    omega
  · rw [BitVec.toNat_and]
    refine Nat.lt_of_le_of_lt Nat.and_le_left ?_
    rw [BitVec.ofInt_natCast, BitVec.toNat_ofNat]
    exact Nat.lt_of_le_of_lt (Nat.mod_le _ _) ha

theorem sign_no (v : Nat) (h : ¬ isSign v) (w : World) :
    Calls Tryd.prog 8 #[.int .i32 v] w fun e w' => e = .returned (.bool false) ∧ w' = w := by
  have := sign_any (v : Int) w
  rw [signB_nat, decide_eq_false h] at this
  refine this.mono ?_
  rintro e w' ⟨rfl, rfl⟩
  exact ⟨rfl, rfl⟩

theorem below_drewN {B : Nat} {a w : World} (h : Below B a w) (n : Nat) : Below B a (w.drewN n) := ⟨h.os, h.tape, h.output, h.size, h.block⟩
theorem right_end (l : List UInt8) (w : World) (hT : UT w) (hl : l.length ≤ 50) (h : nextN l = (0, 0)) :
    Calls Tryd.prog 11 #[.string (strOf l)] w fun e w' => e = .returned (.bool (decide (l = []))) ∧ Below w.heap.size w w' := by
  have := right_any l w hT (by omega)
  rcases (nextN_zero l 0 0 h rfl).2 with h1 | h1
  · subst h1; simpa [valid_nil] using this
  · by_cases he : l = []
    · subst he; simpa [valid_nil] using this
    · rw [valid_bad l he h1] at this
      simpa [he] using this

set_option maxHeartbeats 4000000 in
theorem nexts_none (l : List UInt8) (w : World) (hT : UT w) (hl : l.length ≤ 50) (HN : Hid (nextN l = (0, 0))) :
    Calls Tryd.prog 4 #[.string (strOf l)] w fun e w' => e = .returned (.bool true) ∧ Below w.heap.size w w' := by
  have hsz : (strOf l).size = l.length := by simp [strOf, ByteArray.size]
  have HSZ := Lib.hid hsz
  have hlen : (strOf l).size ≤ 50 := by omega
  clear hsz
  go_enter Tryd.func4, Tryd.ntmps4
  go_wp2_with fail
  refine (head_any w).mono ?_
  rintro e w1 ⟨rfl, rfl⟩
  go_wp2_with fail
  refine (next_any l w hT).mono ?_
  rw [HN.out]
  rintro e w2 ⟨rfl, hb2⟩
  simp only
  go_wp2_with fail
  go_loopw [5] (fun i wr => ∃ k : Nat, 1 ≤ k ∧ k ≤ 5 ∧ i = .int .i64 k ∧ Below w.heap.size w wr) (fun i _ => 5 - (intOf i).toNat)
  case atStart => exact ⟨1, by decide, by decide, rfl, hb2⟩
  case round =>
    obtain ⟨k, hk1, hk5, rfl, hbel⟩ := hrel
    by_cases hk4 : k ≤ 4
    · by_cases hks : k ≤ (strOf l).size
      · have h0 : (0 : Int) < ((strOf l).size : Int) := by omega
        have hks' : (k : Int) ≤ ((strOf l).size : Int) := by omega
        have hb256 := (strOf l)[0].toNat_lt
        have hw0 : wrap64 ((strOf l)[0].toNat : Int) = ((strOf l)[0].toNat : Int) := by unfold wrap64; omega
        obtain ⟨q0, hq0, hq0'⟩ := and_small (strOf l)[0].toNat (127 / 2 ^ k) hb256
        go_wp2
        all_goals
          go_loop [6, 7] (fun x i => ∃ j v : Nat, 1 ≤ j ∧ j ≤ k ∧ i = .int .i64 j ∧ x = .int .i64 v ∧ v < bnd j) (fun _ i => k - (intOf i).toNat)
          case atStart => first | exact ⟨1, q0, by decide, hk1, rfl, rfl, hq0'⟩ | exact ⟨1, _, by decide, hk1, rfl, rfl, hb256⟩
          case round =>
            obtain ⟨j, v, hj1, hjk, rfl, rfl, hv⟩ := hrel
            by_cases hj : j < k
            · have hjl : (j : Int) < ((strOf l).size : Int) := by omega
              have hvv := bnd_le j
              have hx := (strOf l)[j].toNat_lt
              go_wp2
              refine ⟨⟨j + 1, v * 64 + (strOf l)[j].toNat % 64, by omega, by omega, by simp, by simp, bnd_next _ _ _ hj1 (by omega) hv⟩, ?_⟩
              simp [intOf]
              omega
            · have hvv := bnd_le j
              have hvi : IntKind.i32.wrap (v : Int) = (v : Int) := by rw [IntKind.wrap_i32]; omega
              have hvw : wrap32 (v : Int) = (v : Int) := by unfold wrap32; omega
              by_cases hsv : isSign v
              · have HB := Lib.hid (fun W => bytes_any v hsv W)
                have hsg : signB (v : Int) = true := by rw [signB_nat]; exact decide_eq_true hsv
                have hbe : ((strOf (encS v)).toList == ((strOf l).extract 0 k).toList) = false := by
                  rw [ByteArray.toList_eq, ByteArray.toList_eq, Lib.extract_data]
                  refine beq_eq_false_iff_ne.2 (fun e => nextN_none l 0 HN.out v k hsv ?_)
                  simpa [strOf] using e
                clear hsv
                go_wp2_with fail
                go_region_held3 (fun W => Below wr.heap.size wr W)
                  (first | exact (Below.refl _ _).drew | exact (Below.refl _ _).drew.trans hb4 | assumption)
                  (first | (go_at_call 8; (with_reducible refine (sign_any _ _).mono ?_); rintro e w' ⟨rfl, rfl⟩) | (go_at_call 10; (with_reducible refine (HB.out _).mono ?_); rintro e w4 ⟨rfl, hb4⟩))
                go_wp2_with fail
                refine ⟨?_, ?measure⟩
                · (repeat apply Exists.intro)
                  refine ⟨?_, rfl⟩
                  exact ⟨k + 1, by omega, by omega, by go_num, hbel.trans (((Below.refl _ _).drew.trans hb4).mono hbel.size)⟩
                case measure => simp [intOf]; omega
              · have HS := Lib.hid (fun W => sign_no v hsv W)
                clear hsv
                go_wp2_with fail
                go_quiet ((go_at_call 8; refine Calls.quiet_of_same (HS.out _)))
                go_wp2_with fail
                refine ⟨?_, ?measure⟩
                · (repeat apply Exists.intro)
                  refine ⟨?_, rfl⟩
                  exact ⟨k + 1, by omega, by omega, by go_num, hbel.trans ((below_drewN (Below.refl _ _) nq).mono hbel.size)⟩
                case measure => simp [intOf]; omega
      · have hks' : ((strOf l).size : Int) < (k : Int) := by omega
        have hR := right_end l wr (hT.below' hbel) hl HN.out
        have HR := Lib.hid hR
        clear hR
        by_cases he : l = []
        · subst he
          have hem : (strOf ([] : List UInt8)).toList.isEmpty = true := by rw [ByteArray.toList_eq]; rfl
          go_wp2_with fail
          refine HR.out.mono ?_
          rintro e w3 ⟨rfl, hb3⟩
          go_wp2_with fail
          go_ret
          exact ⟨rfl, hbel.trans (hb3.mono hbel.size)⟩
        · have hd : decide (l = []) = false := decide_eq_false he
          rw [hd] at HR
          clear hd
          go_wp2_with fail
          refine HR.out.mono ?_
          rintro e w3 ⟨rfl, hb3⟩
          go_wp2_with fail
          go_ret
          exact ⟨rfl, hbel.trans (hb3.mono hbel.size)⟩
    · have hk4' : (4 : Int) < (k : Int) := by omega
      have hR := right_end l wr (hT.below' hbel) hl HN.out
      have HR := Lib.hid hR
      clear hR
      by_cases he : l = []
      · subst he
        have hem : (strOf ([] : List UInt8)).toList.isEmpty = true := by rw [ByteArray.toList_eq]; rfl
        go_wp2_with fail
        refine HR.out.mono ?_
        rintro e w3 ⟨rfl, hb3⟩
        go_wp2_with fail
        go_ret
        exact ⟨rfl, hbel.trans (hb3.mono hbel.size)⟩
      · have hd : decide (l = []) = false := decide_eq_false he
        rw [hd] at HR
        clear hd
        go_wp2_with fail
        refine HR.out.mono ?_
        rintro e w3 ⟨rfl, hb3⟩
        go_wp2_with fail
        go_ret
        exact ⟨rfl, hbel.trans (hb3.mono hbel.size)⟩

set_option maxHeartbeats 1000000 in
theorem nexts_any (l : List UInt8) (w : World) (hT : UT w) :
    Calls Tryd.prog 4 #[.string (strOf l)] w fun e w' => e = .returned (.bool true) ∧ Below w.heap.size w w' := by
  by_cases hl : l.length ≤ 50
  · obtain ⟨r, k, h⟩ : ∃ r k, nextN l = (r, k) := ⟨_, _, rfl⟩
    by_cases hk : 0 < k
    · exact nexts_some l r k w hT hl (Lib.hid h) hk
    · obtain rfl : k = 0 := by omega
      obtain rfl : r = 0 := (nextN_zero l r 0 h rfl).1
      exact nexts_none l w hT hl (Lib.hid h)
  · have hsz : (50 : Int) < ((strOf l).size : Int) := by simp [strOf, ByteArray.size]; omega
    go_enter Tryd.func4, Tryd.ntmps4
    go_wp2_with fail
    refine (head_any w).mono ?_
    rintro e w1 ⟨rfl, rfl⟩
    go_wp2_with fail
    go_ret
    exact ⟨rfl, Below.refl _ _⟩
end Go.Proofs.YthnghgnoonfgiabDoor
