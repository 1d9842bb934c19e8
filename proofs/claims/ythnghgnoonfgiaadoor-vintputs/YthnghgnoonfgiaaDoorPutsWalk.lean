/- VintPuts: it answers true; nothing that was there is written. -/
import Derived.Test.YthnghgnoonfgiaaDoorLawPut
import Derived.Test.YthnghgnoonfgiaaDoorGetWalk
import Derived.Deep.RegionHeld3
import Derived.WalkKit
import Derived.WalkSpells
import Derived.Outline
namespace Go.Proofs.YthnghgnoonfgiaaDoor
open Go.RowKit
set_option maxRecDepth 100000

set_option maxHeartbeats 2000000 in
theorem puts_walk (A A2 : Option Addr) (m c m2 c2 n : Nat) (l l2 : List UInt8) (w : World) (hT : Tab w) (HL : Hid (m = l.length)) (HL2 : Hid (m2 = l2.length)) (hb : BS w w.heap.size A l) (hb2 : BS w w.heap.size A2 l2) (hn : n < 18446744073709551616) (_hmc : m ≤ c) (hm9 : m ≤ 9223372036854775807) (hm29 : m2 ≤ 9223372036854775807) :
    Calls Tryd.prog 3 #[.slice A m c, .int .u64 n, .slice A2 m2 c2] w fun e w' => e = .returned (.bool true) ∧ Below w.heap.size w w' := by
  by_cases hm : m ≤ 100
  · by_cases hm2 : m2 ≤ 100
    · go_enter Tryd.func3, Tryd.ntmps3
      go_wp2_with fail
      refine (head_any _ hT).mono ?_
      rintro e w1 ⟨rfl, hb1⟩
      have hbA : Below w.heap.size w (w1.alloc (.cells #[] 5)) := hb1.alloc hb1.size _
      have hd1 : decide ((100 : Int) < (m : Int)) = false := decide_eq_false (by omega)
      have hd2 : decide ((100 : Int) < (m2 : Int)) = false := decide_eq_false (by omega)
      have hsA : w.heap.size ≤ w1.heap.size := hb1.size
      go_wp2_with (
        (at_builtin
         refine wpList_append8 _ rfl (.tmp 20) (.tmp 21) rfl w1.heap.size (.slice (some ⟨w1.heap.size, 0, none⟩) 0 0) [] rfl (Own8.lit w1 (0, 0) rfl) A m c w.heap.size l rfl HL.out (hb.below hbA)
           (by have := HL.out; simp only [List.length_nil]; omega) (by simp) ?_
         intro v2 w2 hown2 hg2 hat2))
      have hszA : (w1.alloc (.cells #[] 5)).heap.size = w1.heap.size + 1 := by simp
      have hbel2 : Below w.heap.size w w2 := (Own8.lit w1 (0, 0) rfl).grow hsA hbA (by omega) hg2
      have hs2 : w1.heap.size ≤ w2.heap.size := by have := hg2.size; omega
      refine (put_any v2 l w1.heap.size n hn w2 hown2 hs2 (by have := HL.out; omega)).mono ?_
      rintro e w3 ⟨v3, rfl, hown3, hg3, _⟩
      have hbel3 : Below w.heap.size w w3 := hown2.grow hsA hbel2 hs2 hg3
      obtain ⟨A3, c3, rfl, hc3, _, hbs3, _⟩ := hown3.form
      have hlen3 : (l ++ enc n).length = m + glen n := by rw [List.length_append, ← HL.out]; rfl
      obtain ⟨m3, hm3⟩ : ∃ m3, m3 = m + glen n := ⟨_, rfl⟩
      rw [← hm3] at hlen3
      rw [hlen3] at hc3 ⊢
      have hm3a : m ≤ m3 := by omega
      have hm3b : m3 ≤ 110 := by have := glen_le10 n hn; omega
      have heq : ((glen n : Int) == (m3 : Int) - (m : Int)) = true := by simp; omega
      have HM3 := Lib.hid hm3
      clear hm3
      have hS : Hid (∀ w', Below w3.heap.size w3 w' → Below w3.heap.size w3 w' ∧ (convert 22 9 (.slice A3 m3 c3)).run Tryd.prog w' = .ok (.string (strOf (l ++ enc n))) w' ∧
          (convert 22 9 (.slice A m c)).run Tryd.prog w' = .ok (.string (strOf l)) w') := fun w' h =>
        ⟨h, (hbs3.below h).conv _ _ hlen3.symm, ((hb.below hbel3).below (h.mono hbel3.size)).conv _ _ HL.out⟩
      have hg10 := glen_le10 n hn
      have hss : ¬ 9223372036854775807 < (strOf l).size + (strOf (enc n)).size := by
        have h1 : (strOf l).size = l.length := rfl
        have h2 : (strOf (enc n)).size = glen n := rfl
        have := HL.out
        omega
      have hcat : strOf l ++ strOf (enc n) = strOf (l ++ enc n) := str_append _ _
      have HL3 := Lib.hid hlen3
      clear hT hown2 hg2 hat2 hown3 hg3 hlen3 hbA hbel2 hszA hs2
      go_wp2_with fail
      go_region_held3 (fun w' => Below w3.heap.size w3 w' ∧ (convert 22 9 (.slice A3 m3 c3)).run Tryd.prog w' = .ok (.string (strOf (l ++ enc n))) w' ∧
          (convert 22 9 (.slice A m c)).run Tryd.prog w' = .ok (.string (strOf l)) w')
        (first | exact hS.out _ (Below.refl _ _).drew | exact hS.out _ ((Below.refl _ _).drew.trans hb4))
        (first | (go_at_call 11; refine (lawput_any n hn _).mono ?_; rintro e w4 ⟨rfl, hb4⟩))
      have h34 : Below w3.heap.size w3 w4 := (Below.refl _ _).drew.trans hb4
      have hbel4 : Below w.heap.size w w4 := hbel3.trans (h34.mono hbel3.size)
      obtain ⟨A5, hcut, hbs5⟩ := (hbs3.below h34).from_ m3 c3 m HL3.out.symm (by omega) hc3
      have hdrop : (l ++ enc n).drop m = enc n := by rw [HL.out]; exact List.drop_left
      rw [hdrop] at hbs5
      rw [show m3 - m = glen n by have := HM3.out; omega] at hcut
      have hsB : w3.heap.size ≤ w4.heap.size := h34.size
      have hbB : Below w4.heap.size w4 (w4.alloc (.cells #[] 5)) := (Below.refl _ _).alloc (Nat.le_refl _) _
      have hge : glen n = (enc n).length := rfl
      have HGE := Lib.hid hge
      have hszB : (w4.alloc (.cells #[] 5)).heap.size = w4.heap.size + 1 := by simp
      have HSZ := Lib.hid hszB
      have hb24 : BS w4 w.heap.size A2 l2 := hb2.below hbel4
      clear hS hss hcat hge hszB hb4 hdrop
      go_wp2_with (first
        | (at_builtin
           refine wpList_append8 _ rfl (.tmp 34) (.tmp 38) rfl w4.heap.size (.slice (some ⟨w4.heap.size, 0, none⟩) 0 0) [] rfl (Own8.lit w4 (0, 0) rfl) A5 (glen n) (c3 - m) w3.heap.size (enc n) rfl HGE.out (hbs5.below (hbB.mono hsB))
             (by have := HGE.out; simp only [List.length_nil]; omega) (by simp) ?_
           intro v6 w6 hown6 hg6 hat6
           have hs6 : w4.heap.size ≤ w6.heap.size := by have := hg6.size; have := HSZ.out; omega
           have hbel6 : Below w4.heap.size w4 w6 := (Own8.lit w4 (0, 0) rfl).grow (Nat.le_refl _) hbB (by have := HSZ.out; omega) hg6)
        | (at_builtin
           refine wpList_append8 _ rfl (.tmp 39) (.tmp 40) rfl w4.heap.size v6 (enc n) rfl hown6 A2 m2 c2 w.heap.size l2 rfl HL2.out (hb24.below (hbel6.mono (by have := hbel4.size; omega)))
             (by have := HGE.out; have := HL2.out; omega) hs6 ?_
           intro v7 w7 hown7 hg7 hat7))
      have hbel7 : Below w4.heap.size w4 w7 := hown6.grow (Nat.le_refl _) hbel6 hs6 hg7
      have hbelL : Below w.heap.size w w7 := hbel4.trans (hbel7.mono hbel4.size)
      obtain ⟨A7, c7, hv7, _, _, hbs7, _⟩ := hown7.form
      rw [hv7]
      refine (get_any A7 _ c7 (enc n ++ l2) _ w7 rfl (by rw [List.length_append]; have := HGE.out; have := HL2.out; omega) hbs7).mono ?_
      rw [getN_enc n hn l2]
      rintro e w8 ⟨rfl, rfl⟩
      clear hv7 hown7 hown6 hg6 hg7 hat6 hat7 hbs7 hcut hbs5 hbs3 hn hm9 hm29
      simp only
      go_wp2_with fail
      go_ret
      exact ⟨ret_bool (decide_eq_true (by omega)), hbelL⟩
    · have hm' : (100 : Int) < (m2 : Int) := by omega
      go_enter Tryd.func3, Tryd.ntmps3
      go_wp2_with (go_at_call 9; (with_reducible refine (head_any _ hT).mono ?_); rintro e w1 ⟨rfl, hb1⟩)
      go_ret
      exact ⟨rfl, hb1⟩
  · have hm' : (100 : Int) < (m : Int) := by omega
    go_enter Tryd.func3, Tryd.ntmps3
    go_wp2_with (go_at_call 9; (with_reducible refine (head_any _ hT).mono ?_); rintro e w1 ⟨rfl, hb1⟩)
    go_ret
    exact ⟨rfl, hb1⟩
end Go.Proofs.YthnghgnoonfgiaaDoor
