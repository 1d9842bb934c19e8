/- UtfJoins: it answers true; nothing that was there is written. -/
import Derived.Test.YthnghgnoonfgiacDoorNextWalkC
import Derived.Test.YthnghgnoonfgiacDoorVd
import Derived.Test.YthnghgnoonfgiacDoorMem2
import Derived.WalkKit
import Derived.WalkSpells
import Derived.Outline
import Derived.Lib.Hide
namespace Go.Proofs.YthnghgnoonfgiacDoor
open Go.RowKit
set_option maxRecDepth 100000

theorem UT.below' {w w' : World} (h : UT w) (hb : Below w.heap.size w w') : UT w' := by
  obtain ⟨h1, h2⟩ := h
  have keep : ∀ b o v, w.cell? ⟨b, o, none⟩ = some v → w'.cell? ⟨b, o, none⟩ = some v := fun b o v hc => (hb.cell (p := ⟨b, o, none⟩) (World.block_lt_of_cell? w _ hc)).trans hc
  exact ⟨fun c hc => keep _ _ _ (h1 c hc), fun i hi => ⟨keep _ _ _ (h2 i hi).1, keep _ _ _ (h2 i hi).2⟩⟩
theorem str_cat (l m : List UInt8) : strOf l ++ strOf m = strOf (l ++ m) := by
  apply ByteArray.ext
  simp [strOf]
theorem str_size (l : List UInt8) : (strOf l).size = l.length := by simp [strOf, ByteArray.size]
/-- What Put lays of a number: a sign's bytes, or none. -/
def tOf (c : Int) : List UInt8 := if signB c = true then encS c.toNat else []
theorem put_nil (c : Int) (w : World) : Calls Tryd.prog 7 #[.slice none 0 0, .int .i32 c] w fun e w' => ∃ A n k, e = .returned (.slice A n k) ∧ n = (tOf c).length ∧ BS w' w'.heap.size A (tOf c) ∧ Below w.heap.size w w' := by
  by_cases hs : signB c = true
  · have hr : 0 ≤ c := by have h := hs; unfold signB at h; have := of_decide_eq_true h; omega
    obtain ⟨n, rfl⟩ := Int.eq_ofNat_of_zero_le hr
    have h : isSign n := by have := signB_nat n; rw [hs] at this; exact of_decide_eq_true this.symm
    have hown : Own8 w w.heap.size 5 (.slice none 0 0) [] := ⟨rfl, .inl ⟨rfl, rfl⟩⟩
    have ht : tOf (n : Int) = encS n := by unfold tOf; rw [if_pos hs]; rfl
    refine (uput_any _ [] w.heap.size n h w hown (Nat.le_refl _) (by simp)).mono ?_
    rintro e w3 ⟨v3, rfl, hown3, hg3⟩
    have hb3 := hown.grow (Nat.le_refl _) (Below.refl _ _) (Nat.le_refl _) hg3
    obtain ⟨A3, c3, rfl, hc3, _, hbs3, _⟩ := hown3.form
    rw [ht]
    exact ⟨A3, _, c3, rfl, rfl, hbs3, hb3⟩
  · have hs' : signB c = false := by simpa using hs
    have ht : tOf c = [] := by unfold tOf; rw [if_neg hs]
    refine (uput_bad _ c hs' w).mono ?_
    rintro e w' ⟨rfl, rfl⟩
    rw [ht]
    exact ⟨none, 0, 0, rfl, rfl, BS.nil _ _ _, Below.refl _ _⟩
theorem tOf_sign (c : Int) (h : 2 ≤ (tOf c).length) : ∃ r, isSign r ∧ tOf c = encS r := by
  by_cases hs : signB c = true
  · have hr : 0 ≤ c := by have h := hs; unfold signB at h; have := of_decide_eq_true h; omega
    obtain ⟨n, rfl⟩ := Int.eq_ofNat_of_zero_le hr
    refine ⟨n, by have := signB_nat n; rw [hs] at this; exact of_decide_eq_true this.symm, ?_⟩
    unfold tOf
    rw [if_pos hs]
    rfl
  · unfold tOf at h
    rw [if_neg hs] at h
    simp at h
theorem right_is (l : List UInt8) (v : Bool) (hv : Lib.validD l = v) (hl : l.length ≤ 1000) (w : World) (hT : UT w) (W : World) (hb : Below w.heap.size w W) :
    Calls Tryd.prog 6 #[.string (strOf l)] W fun e w' => e = .returned (.bool v) ∧ Below w.heap.size w w' := by
  have := right_any l W (hT.below' hb) (by omega)
  rw [hv] at this
  exact this.mono fun e w' ⟨h1, h2⟩ => ⟨h1, hb.trans (h2.mono hb.size)⟩

set_option maxHeartbeats 2000000 in
theorem joins_skip (a b : List UInt8) (c : Int) (w : World) (hT : UT w) (h : 100 < a.length ∨ 100 < b.length ∨ Lib.validD a = false ∨ Lib.validD b = false) :
    Calls Tryd.prog 3 #[.string (strOf a), .string (strOf b), .int .i32 c] w fun e w' => e = .returned (.bool true) ∧ Below w.heap.size w w' := by
  have HA := Lib.hid (str_size a)
  have HB := Lib.hid (str_size b)
  by_cases h1 : 100 < a.length
  · have hd1 : (100 : Int) < ((strOf a).size : Int) := by have := HA.out; omega
    clear h
    go_enter Tryd.func3, Tryd.ntmps3
    go_wp2_with fail
    refine (head_any w).mono ?_
    rintro e w1 ⟨rfl, rfl⟩
    go_wp2_with fail
    go_ret
    exact ⟨rfl, Below.refl _ _⟩
  · have hd1 : decide ((100 : Int) < ((strOf a).size : Int)) = false := decide_eq_false (by have := HA.out; omega)
    by_cases h2 : 100 < b.length
    · have hd2 : (100 : Int) < ((strOf b).size : Int) := by have := HB.out; omega
      clear h
      go_enter Tryd.func3, Tryd.ntmps3
      go_wp2_with fail
      refine (head_any w).mono ?_
      rintro e w1 ⟨rfl, rfl⟩
      go_wp2_with fail
      go_ret
      exact ⟨rfl, Below.refl _ _⟩
    · have hd2 : decide ((100 : Int) < ((strOf b).size : Int)) = false := decide_eq_false (by have := HB.out; omega)
      by_cases h3 : Lib.validD a = true
      · have h4 : Lib.validD b = false := by simp_all
        have R1 := Lib.hid (right_is a true h3 (by omega) w hT w (Below.refl _ _))
        have R2 := Lib.hid (right_is b false h4 (by omega) w hT)
        clear h h3 h4
        go_enter Tryd.func3, Tryd.ntmps3
        go_wp2_with fail
        refine (head_any w).mono ?_
        rintro e w1 ⟨rfl, rfl⟩
        go_wp2_with fail
        refine R1.out.mono ?_
        rintro e w2 ⟨rfl, hb2⟩
        go_wp2_with fail
        refine (R2.out _ hb2).mono ?_
        rintro e w3 ⟨rfl, hb3⟩
        go_wp2_with fail
        go_ret
        exact ⟨rfl, hb3⟩
      · have h3' : Lib.validD a = false := by simpa using h3
        have R1 := Lib.hid (right_is a false h3' (by omega) w hT w (Below.refl _ _))
        clear h h3 h3'
        go_enter Tryd.func3, Tryd.ntmps3
        go_wp2_with fail
        refine (head_any w).mono ?_
        rintro e w1 ⟨rfl, rfl⟩
        go_wp2_with fail
        refine R1.out.mono ?_
        rintro e w2 ⟨rfl, hb2⟩
        go_wp2_with fail
        go_ret
        exact ⟨rfl, hb2⟩

set_option maxHeartbeats 4000000 in
theorem joins_all (a b : List UInt8) (c : Int) (w : World) (hT : UT w) (h1 : a.length ≤ 100) (h2 : b.length ≤ 100) (h3 : Lib.validD a = true) (h4 : Lib.validD b = true) :
    Calls Tryd.prog 3 #[.string (strOf a), .string (strOf b), .int .i32 c] w fun e w' => e = .returned (.bool true) ∧ Below w.heap.size w w' := by
  have HA := Lib.hid (str_size a)
  have HB := Lib.hid (str_size b)
  have hd1 : decide ((100 : Int) < ((strOf a).size : Int)) = false := decide_eq_false (by have := HA.out; omega)
  have hd2 : decide ((100 : Int) < ((strOf b).size : Int)) = false := decide_eq_false (by have := HB.out; omega)
  have R1 := Lib.hid (right_is a true h3 (by omega) w hT w (Below.refl _ _))
  have R2 := Lib.hid (right_is b true h4 (by omega) w hT)
  have R3 := Lib.hid (right_is (a ++ b) true (by rw [valid_cat a b h3, h4]) (by simp; omega) w hT)
  have R4 := Lib.hid (right_is (a ++ 128 :: b) false (by rw [valid_cat a _ h3]; exact valid_not 128 b (.inl (by decide))) (by simp; omega) w hT)
  have R5 := Lib.hid (right_is (a ++ [255]) false (by rw [valid_cat a _ h3]; exact valid_not 255 [] (.inr (by decide))) (by simp; omega) w hT)
  have e1 := str_cat a b
  have e2 : strOf a ++ (⟨#[128]⟩ : ByteArray) = strOf (a ++ [128]) := str_cat a [128]
  have e3 := str_cat (a ++ [128]) b
  have e4 : strOf a ++ (⟨#[255]⟩ : ByteArray) = strOf (a ++ [255]) := str_cat a [255]
  have l1 : ¬ 9223372036854775807 < (strOf a).size + (strOf b).size := by rw [str_size, str_size]; omega
  have l2 : ¬ 9223372036854775807 < (strOf a).size + (⟨#[128]⟩ : ByteArray).size := by rw [str_size]; show ¬ _ < a.length + 1; omega
  have l3 : ¬ 9223372036854775807 < (strOf (a ++ [128])).size + (strOf b).size := by rw [str_size, str_size, List.length_append]; show ¬ _ < a.length + 1 + _; omega
  have l4 : ¬ 9223372036854775807 < (strOf a).size + (⟨#[255]⟩ : ByteArray).size := by rw [str_size]; show ¬ _ < a.length + 1; omega
  have HP := Lib.hid (fun W => put_nil c W)
  go_enter Tryd.func3, Tryd.ntmps3
  go_wp2_with fail
  refine (head_any w).mono ?_
  rintro e w1 ⟨rfl, rfl⟩
  go_wp2_with fail
  refine R1.out.mono ?_
  rintro e w2 ⟨rfl, hb2⟩
  go_wp2_with fail
  refine (R2.out _ hb2).mono ?_
  rintro e w3 ⟨rfl, hb3⟩
  go_wp2_with fail
  refine (HP.out _).mono ?_
  rintro e w4 ⟨A4, n4, k4, rfl, hn4, hbs4, hb4⟩
  have hbel4 : Below w.heap.size w w4 := hb3.trans (hb4.mono hb3.size)
  have hcv := hbs4.conv n4 k4 hn4
  have hcv' : (convert 24 9 (.slice A4 n4 k4)).run Tryd.prog w4 = .ok (.string (strOf (tOf c))) w4 := hcv
  clear hcv
  have HN4 := Lib.hid hn4
  clear hn4
  go_wp2_with fail
  refine (R3.out _ hbel4).mono ?_
  rintro e w5 ⟨rfl, hb5⟩
  go_wp2_with fail
  refine (R4.out _ hb5).mono ?_
  rintro e w6 ⟨rfl, hb6⟩
  go_wp2_with fail
  refine (R5.out _ hb6).mono ?_
  rintro e w7 ⟨rfl, hb7⟩
  clear R1 R2 R3 R4 R5 e2 e3 e4 l2 l3 l4 hb2 hb3 hb4 hb5 hb6 hcv'
  by_cases hs : 2 ≤ (tOf c).length
  · obtain ⟨r, hr, ht⟩ : ∃ r, isSign r ∧ tOf c = encS r := tOf_sign c hs
    rw [ht] at hs ⊢
    have hel := encS_len r
    have HE := Lib.hid (str_size (encS r))
    have hd3 : decide (((strOf (encS r)).size : Int) < 2) = false := decide_eq_false (by have := HE.out; omega)
    have R6 := Lib.hid (right_is (a ++ (encS r ++ b)) true (by rw [valid_cat a _ h3, valid_enc_app r hr, h4]) (by simp; omega) w hT)
    obtain ⟨p, hp⟩ : ∃ p, p = (encS r).take ((encS r).length - 1) := ⟨_, rfl⟩
    obtain ⟨q, hq⟩ : ∃ q, q = (encS r).drop 1 := ⟨_, rfl⟩
    have hpl : p.length ≤ 4 := by rw [hp, List.length_take]; omega
    have hql : q.length ≤ 4 := by rw [hq, List.length_drop]; omega
    have R7 := Lib.hid (right_is (a ++ p) false (by rw [valid_cat a _ h3, hp]; exact valid_cut r hr _ (by omega) (by omega)) (by simp; omega) w hT)
    have R8 := Lib.hid (right_is (q ++ b) false (by rw [hq]; exact valid_tail r hs b) (by simp; omega) w hT)
    have f1 := str_cat a (encS r)
    have f2 := str_cat (a ++ encS r) b
    have f3 := str_cat a p
    have f4 := str_cat q b
    have g1 : (strOf (encS r)).extract 0 ((strOf (encS r)).size - 1) = strOf p := by
      rw [str_size, hp]
      apply ByteArray.ext
      apply Array.toList_inj.1
      rw [Lib.extract_data]
      simp [strOf]
    have g2 : (strOf (encS r)).extract 1 (strOf (encS r)).size = strOf q := by
      rw [hq]
      apply ByteArray.ext
      apply Array.toList_inj.1
      rw [Lib.extract_data, str_size]
      exact List.take_of_length_le (by show (List.drop 1 (encS r)).length ≤ _; simp)
    have k1 : ¬ 9223372036854775807 < (strOf a).size + (strOf (encS r)).size := by rw [str_size, str_size]; omega
    have k2 : ¬ 9223372036854775807 < (strOf (a ++ encS r)).size + (strOf b).size := by rw [str_size, str_size, List.length_append]; omega
    have k3 : ¬ 9223372036854775807 < (strOf a).size + (strOf p).size := by rw [str_size, str_size]; omega
    have k4 : ¬ 9223372036854775807 < (strOf q).size + (strOf b).size := by rw [str_size, str_size]; omega
    clear hp hq ht
    have hsz : (1 : Int) ≤ ((strOf (encS r)).size : Int) := by have := HE.out; omega
    go_wp2_with fail
    refine (R6.out _ hb7).mono ?_
    rintro e w8 ⟨rfl, hb8⟩
    go_wp2_with fail
    refine (R7.out _ hb8).mono ?_
    rintro e w9 ⟨rfl, hb9⟩
    go_wp2_with fail
    refine (R8.out _ hb9).mono ?_
    rintro e w10 ⟨rfl, hb10⟩
    go_wp2_with fail
    go_ret
    exact ⟨rfl, hb10⟩
  · have ht : ((strOf (tOf c)).size : Int) < 2 := by rw [str_size]; omega
    go_wp2_with fail
    go_ret
    exact ⟨rfl, hb7⟩

theorem joins_any (a b : List UInt8) (c : Int) (w : World) (hT : UT w) :
    Calls Tryd.prog 3 #[.string (strOf a), .string (strOf b), .int .i32 c] w fun e w' => e = .returned (.bool true) ∧ Below w.heap.size w w' := by
  by_cases h : 100 < a.length ∨ 100 < b.length ∨ Lib.validD a = false ∨ Lib.validD b = false
  · exact joins_skip a b c w hT h
  · have h1 : ¬ 100 < a.length := fun x => h (.inl x)
    have h2 : ¬ 100 < b.length := fun x => h (.inr (.inl x))
    have h3 : ¬ Lib.validD a = false := fun x => h (.inr (.inr (.inl x)))
    have h4 : ¬ Lib.validD b = false := fun x => h (.inr (.inr (.inr x)))
    exact joins_all a b c w hT (by omega) (by omega) (by simpa using h3) (by simpa using h4)
end Go.Proofs.YthnghgnoonfgiacDoor
