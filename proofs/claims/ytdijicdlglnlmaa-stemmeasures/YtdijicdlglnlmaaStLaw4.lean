/- StemMeasures answers true. -/
import Derived.Test.YtdijicdlglnlmaaStLaw3
namespace Go.Proofs.Ytdijicdlglnlmaa
open Go.RowKit
set_option maxRecDepth 100000

theorem measL_one (l : List UInt8) : measL (l.take 1) = 0 := by
  have h := measL_half (l.take 1)
  have h2 := List.length_take_le 1 l
  omega
set_option maxHeartbeats 4000000 in
theorem lmeas_any (l : List UInt8) (hl : l.length ≤ 1000000) (w : World) :
    Calls Try.prog 10 #[.string (strOf l)] w fun e w' => e = .returned (.int .i64 (measL l)) ∧ Below w.heap.size w w' := by
  have HV := Lib.hid (vowels_any l hl w)
  obtain ⟨n, hn⟩ : ∃ n, n = l.length := ⟨_, rfl⟩
  have HL := Lib.hid hn
  have hnb : n ≤ 1000000 := by omega
  go_enter Try.func10, Try.ntmps10
  go_wp2_with fail
  refine HV.out.mono ?_
  rintro e w1 ⟨v, rfl, hown, hbel⟩
  rw [← hn] at hown
  clear hn
  obtain ⟨A, c, rfl, hnc, hcm, hcs, _⟩ := own_form hown
  unfold maxLen at hcm
  go_wp2_with fail
  go_loop [4, 5] (fun m i => ∃ k : Nat, k ≤ n ∧ i = .int .i64 k ∧ m = .int .i64 (measL (l.take (k + 1)))) (fun _ i => n - (intOf i).toNat)
  case atStart => exact ⟨0, Nat.zero_le _, rfl, by rw [measL_one]; rfl⟩
  case round =>
    obtain ⟨k, hk, rfl, rfl⟩ := hrel
    have hm : measL (l.take (k + 1)) ≤ 1000000 := by have := measL_le (l.take (k + 1)); have := List.length_take_le' (k + 1) l; omega
    by_cases hlt : k + 1 < n
    · have hkl : k + 1 < l.length := by rw [← HL.out]; exact hlt
      obtain ⟨g, o, rfl, hg, hcell⟩ := hcs (by rw [vl_len]; omega)
      have hc1 := hcell k _ (vl_at l k (by omega))
      have hc2 := hcell (k + 1) _ (vl_at l (k + 1) (by omega))
      have HM : Hid (measL (l.take (k + 1 + 1)) = if openL (l.take (k + 1)) && !openL (l.take (k + 1 + 1)) then measL (l.take (k + 1)) + 1 else measL (l.take (k + 1))) := by
        show _ = _
        rw [List.take_succ_eq_append_getElem hkl, measL_snoc]
      generalize openL (l.take (k + 1)) = a at *
      generalize openL (l.take (k + 1 + 1)) = b at *
      generalize measL (l.take (k + 1)) = m at *
      clear hcell
      cases a
      case' true => cases b
      all_goals
        go_wp2_with fail
        go_round
        case rel => exact ⟨k + 1, by omega, by go_num, by rw [HM.out]; first | rfl | go_num⟩
        case measure => simp [intOf]; omega
    · have he : l.take (k + 1) = l := List.take_of_length_le (by rw [← HL.out]; omega)
      have HE := Lib.hid he
      clear he
      go_wp2_with fail
      go_ret
      exact ⟨by rw [HE.out]; rfl, hbel⟩
theorem lmeas_is (l : List UInt8) (m : Nat) (h : Hid (measL l = m)) (hl : l.length ≤ 1000000) (w : World) :
    Calls Try.prog 10 #[.string (strOf l)] w fun e w' => e = .returned (.int .i64 (m : Int)) ∧ Below w.heap.size w w' := by
  have h' := h.out; subst h'; exact lmeas_any l hl w

theorem conv_one (c : UInt8) (W : World) : (convert 26 9 (.slice (some ⟨W.heap.size, 0, none⟩) 1 1)).run Try.prog (W.alloc (.cells #[.int .u8 (c.toNat : Int)] 5)) = .ok (.string ⟨#[c]⟩) (W.alloc (.cells #[.int .u8 (c.toNat : Int)] 5)) := by
  have h : BS (W.alloc (.cells #[.int .u8 (c.toNat : Int)] 5)) (W.heap.size + 1) (some ⟨W.heap.size, 0, none⟩) [c] := fun _ => by
    refine ⟨W.heap.size, 0, rfl, by omega, fun k hk => ?_⟩
    have hk0 : k = 0 := by simpa using hk
    subst hk0
    rw [Nat.zero_add, World.cell?_alloc_mark, at8_eq _ 0 (by simp)]
    rfl
  exact h.conv 1 1 rfl
set_option maxHeartbeats 4000000 in
theorem measures_walk (l : List UInt8) (c : UInt8) (hl : l.length ≤ 200) (w : World) :
    Calls Try.prog 4 #[.string (strOf l), .int .u8 (c.toNat : Int)] w fun e w' => e = .returned (.bool true) ∧ Below w.heap.size w w' := by
  have hz : (strOf l).size ≤ 200 := by rw [size8]; exact hl
  obtain ⟨m, hm⟩ : ∃ m, measL l = m := ⟨_, rfl⟩
  obtain ⟨m2, hm2⟩ : ∃ m, measL (l ++ [c]) = m := ⟨_, rfl⟩
  have HM := Lib.hid hm
  have HM2 := Lib.hid hm2
  have hhalf : 2 * m ≤ (strOf l).size := by rw [size8, ← hm]; have := measL_half l; omega
  have hstep : m2 = m ∨ m2 = m + 1 := by
    rw [← hm, ← hm2, measL_snoc]
    split
    · exact .inr rfl
    · exact .inl rfl
  have hl2 : (l ++ [c]).length ≤ 1000000 := by simp; omega
  have hadd : strOf l ++ (⟨#[c]⟩ : ByteArray) = strOf (l ++ [c]) := add8 l [c]
  have hcv := conv_one c
  clear hm hm2
  have f1 : ((m2 : Int) == (m : Int)) = true ∨ (((m2 : Int) == (m : Int)) = false ∧ ((m2 : Int) == (m : Int) + 1) = true) := by
    rcases hstep with h | h
    · exact .inl (beq_iff_eq.2 (by omega))
    · exact .inr ⟨beq_eq_false_iff_ne.2 (by omega), beq_iff_eq.2 (by omega)⟩
  have f3 : (m : Int) ≤ ((strOf l).size : Int) / 2 := by omega
  have hmz : m ≤ 200 := by omega
  clear hstep
  rcases f1 with f1 | ⟨f1, f2⟩
  all_goals
   go_enter Try.func4, Try.ntmps4
   go_wp2_with fail
   refine (head_any _).mono ?_
   rintro e w1 ⟨rfl, b1⟩
   go_wp2_with fail
   with_reducible refine (meas_is _ _ HM (by omega) _).mono ?_
   rintro e w' ⟨rfl, rfl⟩
   go_wp2_with fail
   with_reducible refine (meas_is _ _ HM2 (by omega) _).mono ?_
   rintro e w' ⟨rfl, rfl⟩
   go_wp2_with fail
   with_reducible refine (lmeas_is _ _ HM (by omega) _).mono ?_
   rintro e w2 ⟨rfl, b2⟩
   have c2 : Below w.heap.size w w2 := (b1.alloc b1.size _).trans (b2.mono (by have := b1.size; simp; omega))
   clear b1 b2
   go_wp2_with fail
   with_reducible refine (lmeas_is _ _ HM2 (by omega) _).mono ?_
   rintro e w3 ⟨rfl, b3⟩
   have c3 : Below w.heap.size w w3 := (c2.alloc c2.size _).trans (b3.mono (by have := c2.size; simp; omega))
   clear b3
   go_wp2_with fail
   go_ret
   refine ⟨?_, c3⟩
   first | rfl | (refine ret_bool ?_; go_light; simp; omega)

set_option maxHeartbeats 1000000 in
theorem measures_all (l : List UInt8) (c : UInt8) (w : World) :
    Calls Try.prog 4 #[.string (strOf l), .int .u8 (c.toNat : Int)] w fun e w' => e = .returned (.bool true) ∧ Below w.heap.size w w' := by
  by_cases hl : l.length ≤ 200
  · exact measures_walk l c hl w
  · have hsz : (200 : Int) < ((strOf l).size : Int) := by rw [size8]; omega
    go_enter Try.func4, Try.ntmps4
    go_wp2_with fail
    refine (head_any w).mono ?_
    rintro e w1 ⟨rfl, b1⟩
    go_wp2_with fail
    go_ret
    exact ⟨rfl, b1⟩
end Go.Proofs.Ytdijicdlglnlmaa
