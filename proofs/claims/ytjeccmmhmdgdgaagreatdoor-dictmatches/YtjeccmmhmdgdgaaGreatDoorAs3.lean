/- small, short, doubled, mended, withoutPast, withI of package stem. -/
import Derived.Test.YtjeccmmhmdgdgaaGreatDoorAs2
import Derived.IntWalk
namespace Go.Proofs.YtjeccmmhmdgdgaaGreatDoor.St
open Go.RowKit
set_option maxRecDepth 100000

theorem open_is (l : List UInt8) (b : Bool) (h : Hid (openL l = b)) (hl : l.length ≤ 1000000000) (w : World) :
    Calls Tryz.prog 97 #[.string (strOf l)] w fun e w' => e = .returned (.bool b) ∧ w = w' := by
  have h' := h.out; subst h'; exact open_any l hl w
theorem meas_is (l : List UInt8) (m : Nat) (h : Hid (measL l = m)) (hl : l.length ≤ 1000000000) (w : World) :
    Calls Tryz.prog 71 #[.string (strOf l)] w fun e w' => e = .returned (.int .i64 (m : Int)) ∧ w = w' := by
  have h' := h.out; subst h'; exact measure_any l hl w
theorem byte_back (x : UInt8) : ((x.toNat : Int)).toNat.toUInt8 = x := by rw [Int.toNat_natCast]; simp
theorem idx_is (p : List UInt8) (x : UInt8) (k : Int) (h : Hid (Lib.indexByte p x = k)) (w : World) :
    Calls Tryz.prog 96 #[.string ⟨p.toArray⟩, .int .u8 (x.toNat : Int)] w fun e w' => e = .returned (.int .i64 k) ∧ w = w' := by
  have h' := h.out; subst h'
  refine (Tryz.strings_IndexByte ⟨p.toArray⟩ (x.toNat : Int) w).mono ?_
  rintro e w' ⟨rfl, rfl⟩
  exact ⟨by rw [byte_back], rfl⟩
theorem last_at (l : List UInt8) (k : Nat) (hk : 1 ≤ k) (h : k ≤ (strOf l).size) : (strOf l)[(strOf l).size - k]'(by omega) = lastL l k := by
  have hz := size8 l
  unfold lastL
  rw [List.getElem?_eq_getElem (by omega)]
  simp only [Option.getD_some]
  show l.toArray[(strOf l).size - k]'_ = _
  simp [hz]

set_option maxHeartbeats 2000000 in
theorem short_any (l : List UInt8) (hl : l.length ≤ 1000000000) (w : World) :
    Calls Tryz.prog 75 #[.string (strOf l)] w fun e w' => e = .returned (.bool (shortL l)) ∧ w = w' := by
  have HH : Hid (shortL l = (decide (3 ≤ l.length) && !decide (0 ≤ Lib.indexByte [119, 120, 121] (lastL l 1)) && (!openL (cutL l 2) && openL (cutL l 1) && !openL l))) := rfl
  have hz1 : (strOf l).size ≤ 1000000000 := by rw [size8]; exact hl
  have HZ := Lib.hid (size8 l)
  by_cases h3 : (strOf l).size < 3
  · have HE : Hid (shortL l = false) := by
      have h : ¬ 3 ≤ l.length := by rw [← size8]; omega
      show _ = _
      rw [HH.out]; simp [h]
    clear HH
    go_enter Tryz.func75, Tryz.ntmps75
    go_wp2_with fail
    go_ret
    exact ⟨by rw [HE.out]; rfl, rfl⟩
  · have hx : (strOf l)[(strOf l).size - 1]'(by omega) = lastL l 1 := last_at l 1 (by omega) (by omega)
    have h3' : 3 ≤ (strOf l).size := by omega
    have hd : decide (3 ≤ l.length) = true := decide_eq_true (by rw [← size8]; omega)
    rw [hd] at HH
    clear hd
    generalize lastL l 1 = x at *
    obtain ⟨k, hk⟩ : ∃ k, Lib.indexByte [119, 120, 121] x = k := ⟨_, rfl⟩
    obtain ⟨b1, h1⟩ : ∃ b, openL (cutL l 2) = b := ⟨_, rfl⟩
    obtain ⟨b2, h2⟩ : ∃ b, openL (cutL l 1) = b := ⟨_, rfl⟩
    obtain ⟨b3, h4⟩ : ∃ b, openL l = b := ⟨_, rfl⟩
    rw [hk, h1, h2, h4] at HH
    have H1 := Lib.hid h1
    have H2 := Lib.hid h2
    have H3 := Lib.hid h4
    have HK := Lib.hid hk
    clear hk h1 h2 h4
    have e1 := cut_ext l 1
    have e2 := cut_ext l 2
    have l1 : (cutL l 1).length ≤ 1000000000 := by rw [cut_len]; omega
    have l2 : (cutL l 2).length ≤ 1000000000 := by rw [cut_len]; omega
    by_cases hk0 : 0 ≤ k
    · have HE : Hid (shortL l = false) := by show _ = _; rw [HH.out]; simp [hk0]
      clear HH
      go_enter Tryz.func75, Tryz.ntmps75
      go_wp2_with fail
      with_reducible refine (idx_is _ _ _ HK _).mono ?_
      rintro e w' ⟨rfl, rfl⟩
      go_wp2_with fail
      go_ret
      exact ⟨by rw [HE.out]; rfl, rfl⟩
    · have hk1 : k < 0 := by omega
      have HE : Hid (shortL l = (!b1 && b2 && !b3)) := by show _ = _; rw [HH.out]; simp [hk0]
      clear HH hk0
      cases b1
      case' false => cases b2
      all_goals
        go_enter Tryz.func75, Tryz.ntmps75
        go_wp2_with fail
        with_reducible refine (idx_is _ _ _ HK _).mono ?_
        rintro e w' ⟨rfl, rfl⟩
        go_wp2_with (go_at_call 97; (first | (with_reducible refine (open_is _ _ H1 l2 _).mono ?_) | (with_reducible refine (open_is _ _ H2 l1 _).mono ?_) | (with_reducible refine (open_is _ _ H3 hl _).mono ?_)); rintro e w' ⟨rfl, rfl⟩)
        go_ret
        exact ⟨by rw [HE.out]; rfl, rfl⟩

theorem below_drewN {B : Nat} {a w : World} (h : Below B a w) (n : Nat) : Below B a (w.drewN n) := ⟨h.os, h.tape, h.output, h.size, h.block⟩
theorem quiet_eq {P : Program} {f : FuncId} {args : Array Value} {w : World} {n : Nat} {v : Value}
    (h : Calls P f args (w.drewN n) fun e w' => e = .returned v ∧ w.drewN n = w') : Calls P f args (w.drewN n) fun e w'' => e = .returned v ∧ ∃ m, w'' = w.drewN m :=
  h.mono fun _ _ ⟨he, hm⟩ => ⟨he, n, hm.symm⟩
set_option maxHeartbeats 2000000 in
theorem doubled_any (l : List UInt8) (hl : l.length ≤ 1000000000) (w : World) :
    Calls Tryz.prog 95 #[.string (strOf l)] w fun e w' => e = .returned (.bool (dblL l)) ∧ Below w.heap.size w w' := by
  have HH : Hid (dblL l = (decide (2 ≤ l.length) && (lastL l 1 == lastL l 2) && !decide (0 ≤ Lib.indexByte [108, 115, 122] (lastL l 1)) && !openL l)) := rfl
  have hz1 : (strOf l).size ≤ 1000000000 := by rw [size8]; exact hl
  have HZ := Lib.hid (size8 l)
  by_cases h3 : (strOf l).size < 2
  · have HE : Hid (dblL l = false) := by
      have h : ¬ 2 ≤ l.length := by rw [← size8]; omega
      show _ = _
      rw [HH.out]; simp [h]
    clear HH
    have hd2 : decide (((strOf l).size : Int) < 2) = true := decide_eq_true (by omega)
    go_enter Tryz.func95, Tryz.ntmps95
    go_wp2_with fail
    go_quiet ((fail))
    go_wp2_with fail
    go_ret
    exact ⟨by rw [HE.out]; rfl, below_drewN (Below.refl _ _) nq⟩
  · have hx : (strOf l)[(strOf l).size - 1]'(by omega) = lastL l 1 := last_at l 1 (by omega) (by omega)
    have hy : (strOf l)[(strOf l).size - 2]'(by omega) = lastL l 2 := last_at l 2 (by omega) (by omega)
    have h3' : 2 ≤ (strOf l).size := by omega
    have hd : decide (2 ≤ l.length) = true := decide_eq_true (by rw [← size8]; omega)
    rw [hd] at HH
    clear hd
    generalize lastL l 1 = x at *
    generalize lastL l 2 = y at *
    obtain ⟨k, hk⟩ : ∃ k, Lib.indexByte [108, 115, 122] x = k := ⟨_, rfl⟩
    obtain ⟨b3, h4⟩ : ∃ b, openL l = b := ⟨_, rfl⟩
    rw [hk, h4] at HH
    have H3 := Lib.hid h4
    have HK := Lib.hid hk
    clear hk h4
    have hd2 : decide (((strOf l).size : Int) < 2) = false := decide_eq_false (by omega)
    have hw1 : IntKind.i64.wrap (((strOf l).size : Int) - 1) = ((strOf l).size : Int) - 1 := IntWalk.i64_in _ (by omega)
    have hw2 : IntKind.i64.wrap (((strOf l).size : Int) - 2) = ((strOf l).size : Int) - 2 := IntWalk.i64_in _ (by omega)
    have ht1 : (((strOf l).size : Int) - 1).toNat = (strOf l).size - 1 := by omega
    have ht2 : (((strOf l).size : Int) - 2).toNat = (strOf l).size - 2 := by omega
    have hi1 : ∀ W, (Instr.index 9 (.string (strOf l)) (.int .i64 (((strOf l).size : Int) - 1))).run Tryz.prog W = .ok (.int .u8 (x.toNat : Int)) W := fun W => by
      rw [run_index_string W _ _ _ _ Tryz.underlying9, dif_pos (⟨by omega, by omega⟩ : 0 ≤ ((strOf l).size : Int) - 1 ∧ ((strOf l).size : Int) - 1 < ((strOf l).size : Int))]
      simp only [ht1, hx]
    have hi2 : ∀ W, (Instr.index 9 (.string (strOf l)) (.int .i64 (((strOf l).size : Int) - 2))).run Tryz.prog W = .ok (.int .u8 (y.toNat : Int)) W := fun W => by
      rw [run_index_string W _ _ _ _ Tryz.underlying9, dif_pos (⟨by omega, by omega⟩ : 0 ≤ ((strOf l).size : Int) - 2 ∧ ((strOf l).size : Int) - 2 < ((strOf l).size : Int))]
      simp only [ht2, hy]
    clear hx hy ht1 ht2
    by_cases hxy : x = y
    · have hn : ((x.toNat : Int) != (y.toNat : Int)) = false := by subst hxy; simp
      have hb : (x == y) = true := by simp [hxy]
      rw [hb] at HH
      clear hb hxy
      by_cases hk0 : 0 ≤ k
      · have HE : Hid (dblL l = false) := by show _ = _; rw [HH.out]; simp [hk0]
        have hg : decide (0 ≤ k) = true := decide_eq_true hk0
        clear HH hk0
        go_enter Tryz.func95, Tryz.ntmps95
        go_wp2_with fail
        go_quiet ((go_at_call 96; exact quiet_eq (idx_is _ _ _ HK _)))
        go_wp2_with fail
        go_ret
        exact ⟨by rw [HE.out]; rfl, below_drewN (Below.refl _ _) nq⟩
      · have HE : Hid (dblL l = !b3) := by show _ = _; rw [HH.out]; simp [hk0]
        have hg : decide (0 ≤ k) = false := decide_eq_false hk0
        clear HH hk0
        go_enter Tryz.func95, Tryz.ntmps95
        go_wp2_with fail
        go_quiet ((go_at_call 96; exact quiet_eq (idx_is _ _ _ HK _)))
        go_wp2_with fail
        with_reducible refine (open_is _ _ H3 hl _).mono ?_
        rintro e w' ⟨rfl, rfl⟩
        go_wp2_with fail
        go_ret
        exact ⟨by rw [HE.out]; rfl, below_drewN (Below.refl _ _) nq⟩
    · have hn : ((x.toNat : Int) != (y.toNat : Int)) = true := by
        rw [bne_iff_ne]
        intro e
        exact hxy (UInt8.toNat_inj.1 (by omega))
      have hb : (x == y) = false := by simp [hxy]
      rw [hb] at HH
      have HE : Hid (dblL l = false) := by show _ = _; rw [HH.out]; simp
      clear hb hxy HH
      go_enter Tryz.func95, Tryz.ntmps95
      go_wp2_with fail
      go_quiet ((fail))
      go_wp2_with fail
      go_ret
      exact ⟨by rw [HE.out]; rfl, below_drewN (Below.refl _ _) nq⟩
end Go.Proofs.YtjeccmmhmdgdgaaGreatDoor.St
