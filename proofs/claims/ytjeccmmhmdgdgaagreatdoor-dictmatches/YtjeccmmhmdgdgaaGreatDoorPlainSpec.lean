/- Plain and Letter of package utf, as plain functions on integers; no Go in sight. -/
import Derived.Test.YtjeccmmhmdgdgaaGreatDoorLowSpec
namespace Go.Proofs.YtjeccmmhmdgdgaaGreatDoor
set_option maxRecDepth 100000

/-- The letters without marks, by the page (a dash: 45). -/
def plainTab : List Nat := [65, 65, 65, 65, 65, 65, 45, 67, 69, 69, 69, 69, 73, 73, 73, 73, 45, 78, 79, 79, 79, 79, 79, 45, 45, 85, 85, 85, 85, 89, 45, 45, 97, 97, 97, 97, 97, 97, 45, 99, 101, 101, 101, 101, 105, 105, 105, 105, 45, 110, 111, 111, 111, 111, 111, 45, 45, 117, 117, 117, 117, 121, 45, 121, 65, 97, 65, 97, 65, 97, 67, 99, 67, 99, 67, 99, 67, 99, 68, 100, 45, 45, 69, 101, 69, 101, 69, 101, 69, 101, 69, 101, 71, 103, 71, 103, 71, 103, 71, 103, 72, 104, 45, 45, 73, 105, 73, 105, 73, 105, 73, 105, 45, 45, 45, 45, 74, 106, 75, 107, 45, 76, 108, 76, 108, 76, 108, 45, 45, 45, 45, 78, 110, 78, 110, 78, 110, 45, 45, 45, 79, 111, 79, 111, 79, 111, 45, 45, 82, 114, 82, 114, 82, 114, 83, 115, 83, 115, 83, 115, 83, 115, 84, 116, 84, 116, 45, 45, 85, 117, 85, 117, 85, 117, 85, 117, 85, 117, 85, 117, 87, 119, 89, 121, 89, 90, 122, 90, 122, 90, 122, 45]
def plainBytes : ByteArray := ⟨#[65, 65, 65, 65, 65, 65, 45, 67, 69, 69, 69, 69, 73, 73, 73, 73, 45, 78, 79, 79, 79, 79, 79, 45, 45, 85, 85, 85, 85, 89, 45, 45, 97, 97, 97, 97, 97, 97, 45, 99, 101, 101, 101, 101, 105, 105, 105, 105, 45, 110, 111, 111, 111, 111, 111, 45, 45, 117, 117, 117, 117, 121, 45, 121, 65, 97, 65, 97, 65, 97, 67, 99, 67, 99, 67, 99, 67, 99, 68, 100, 45, 45, 69, 101, 69, 101, 69, 101, 69, 101, 69, 101, 71, 103, 71, 103, 71, 103, 71, 103, 72, 104, 45, 45, 73, 105, 73, 105, 73, 105, 73, 105, 45, 45, 45, 45, 74, 106, 75, 107, 45, 76, 108, 76, 108, 76, 108, 45, 45, 45, 45, 78, 110, 78, 110, 78, 110, 45, 45, 45, 79, 111, 79, 111, 79, 111, 45, 45, 82, 114, 82, 114, 82, 114, 83, 115, 83, 115, 83, 115, 83, 115, 84, 116, 84, 116, 45, 45, 85, 117, 85, 117, 85, 117, 85, 117, 85, 117, 85, 117, 87, 119, 89, 121, 89, 90, 122, 90, 122, 90, 122, 45]⟩
def plainAt (i : Nat) : Nat := plainTab.getD i 0

/-- Plain, by the page. -/
def plainI (r : Int) : Int := if 192 ≤ r ∧ r ≤ 383 then (if plainAt (r - 192).toNat = 45 then r else (plainAt (r - 192).toNat : Int)) else r

theorem plainBytes_size : plainBytes.size = 192 := rfl
theorem plainBytes_at_fin : ∀ i : Fin 192, plainBytes[i.val]'(by rw [plainBytes_size]; exact i.isLt) = UInt8.ofNat (plainAt i.val) := by decide +kernel
theorem plainAt_lt : ∀ i : Fin 192, plainAt i.val < 128 := by decide +kernel
theorem plainBytes_at (i : Nat) (h : i < plainBytes.size) : plainBytes[i].toNat = plainAt i := by
  have h' : i < 192 := h
  have e := plainBytes_at_fin ⟨i, h'⟩
  have l := plainAt_lt ⟨i, h'⟩
  simp only at e l
  rw [e]
  simp
  omega

/-- Letter, by the page. -/
def letterB (r : Int) : Bool :=
  if r < 128 then decide ((48 ≤ r ∧ r ≤ 57) ∨ (65 ≤ r ∧ r ≤ 90) ∨ (97 ≤ r ∧ r ≤ 122))
  else if r < 192 then decide (r = 170 ∨ r = 181 ∨ r = 186)
  else decide (¬ (r = 215 ∨ r = 247 ∨ (8192 ≤ r ∧ r ≤ 8303) ∨ (12288 ≤ r ∧ r ≤ 12292) ∨ (12296 ≤ r ∧ r ≤ 12320)))

theorem plainI_out (r : Int) (h : r < 192 ∨ 383 < r) : plainI r = r := by unfold plainI; rw [if_neg (by omega)]

/-- All of the 192 places at once, by reckoning. -/
theorem plain_facts : ∀ i : Fin 192, plainI ((i.val : Int) + 192) = (i.val : Int) + 192 ∨
    ((65 ≤ plainI ((i.val : Int) + 192) ∧ plainI ((i.val : Int) + 192) ≤ 90 ∨ 97 ≤ plainI ((i.val : Int) + 192) ∧ plainI ((i.val : Int) + 192) ≤ 122) ∧
      lowI (plainI ((i.val : Int) + 192)) = plainI (lowI ((i.val : Int) + 192))) := by decide +kernel
theorem letter_facts : ∀ i : Fin 192, letterB (lowI ((i.val : Int) + 192)) = letterB ((i.val : Int) + 192) ∧ letterB (plainI ((i.val : Int) + 192)) = letterB ((i.val : Int) + 192) := by decide +kernel

theorem plain_cases (r : Int) : plainI r = r ∨ (192 ≤ r ∧ r ≤ 383 ∧ ((65 ≤ plainI r ∧ plainI r ≤ 90) ∨ (97 ≤ plainI r ∧ plainI r ≤ 122)) ∧ lowI (plainI r) = plainI (lowI r)) := by
  by_cases h : 192 ≤ r ∧ r ≤ 383
  · have e : (((⟨(r - 192).toNat, by omega⟩ : Fin 192).val : Int) + 192) = r := by simp only; omega
    have f := plain_facts ⟨(r - 192).toNat, by omega⟩
    rw [e] at f
    rcases f with f | f
    · exact .inl f
    · exact .inr ⟨h.1, h.2, f.1, f.2⟩
  · exact .inl (plainI_out r (by omega))
theorem plain_bounds (r : Int) (h1 : -2147483648 ≤ r) (h2 : r ≤ 2147483647) : -2147483648 ≤ plainI r ∧ plainI r ≤ 2147483647 := by
  rcases plain_cases r with h | h <;> omega
theorem low_bounds (r : Int) (h1 : -2147483648 ≤ r) (h2 : r ≤ 2147483647) : -2147483648 ≤ lowI r ∧ lowI r ≤ 2147483647 := by
  unfold lowI; split <;> (try split) <;> (try split) <;> omega
theorem plain_twice (r : Int) : plainI (plainI r) = plainI r := by
  rcases plain_cases r with h | ⟨_, _, h, _⟩
  · rw [h, h]
  · exact plainI_out _ (by omega)
theorem letter_low (r : Int) : letterB (lowI r) = letterB r := by
  by_cases h : 192 ≤ r ∧ r ≤ 383
  · have e : (((⟨(r - 192).toNat, by omega⟩ : Fin 192).val : Int) + 192) = r := by simp only; omega
    have f := letter_facts ⟨(r - 192).toNat, by omega⟩
    rw [e] at f
    exact f.1
  · by_cases h' : 65 ≤ r ∧ r ≤ 90
    · have : lowI r = r + 32 := by unfold lowI; rw [if_pos (by omega)]
      have a : letterB (r + 32) = true := by unfold letterB; rw [if_pos (by omega)]; exact decide_eq_true (by omega)
      have b : letterB r = true := by unfold letterB; rw [if_pos (by omega)]; exact decide_eq_true (by omega)
      rw [this, a, b]
    · have : lowI r = r := by unfold lowI; rw [if_neg (by omega), if_neg (by omega), if_neg (by omega)]
      rw [this]
theorem letter_plain (r : Int) : letterB (plainI r) = letterB r := by
  by_cases h : 192 ≤ r ∧ r ≤ 383
  · have e : (((⟨(r - 192).toNat, by omega⟩ : Fin 192).val : Int) + 192) = r := by simp only; omega
    have f := letter_facts ⟨(r - 192).toNat, by omega⟩
    rw [e] at f
    exact f.2
  · rw [plainI_out r (by omega)]
end Go.Proofs.YtjeccmmhmdgdgaaGreatDoor
