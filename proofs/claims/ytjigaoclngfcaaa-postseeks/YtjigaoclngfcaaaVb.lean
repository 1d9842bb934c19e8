/- Numbers as bytes of seven bits: plain functions and their laws. No Go in sight. -/
import Derived.WalkKit
import Derived.Lib.BitFns
namespace Go.Proofs.Ytjigaoclngfcaaa
set_option maxRecDepth 100000

/-- The higher groups: seven bits each, the highest ones ahead, each with 128 besides. -/
def hiB (n : Nat) : List UInt8 := if _h : n = 0 then [] else hiB (n / 128) ++ [UInt8.ofNat (n % 128 + 128)]
termination_by n
decreasing_by omega
theorem hiB_zero : hiB 0 = [] := by rw [hiB]; rfl
theorem hiB_pos (n : Nat) (h : n ≠ 0) : hiB n = hiB (n / 128) ++ [UInt8.ofNat (n % 128 + 128)] := by rw [hiB, dif_neg h]
/-- A number as bytes. -/
def enc (n : Nat) : List UInt8 := hiB (n / 128) ++ [UInt8.ofNat (n % 128)]
/-- How many bytes. -/
def glen (n : Nat) : Nat := (enc n).length

theorem glen_small (n : Nat) (h : n < 128) : glen n = 1 := by
  unfold glen enc
  rw [show n / 128 = 0 by omega, hiB_zero]
  rfl
theorem hiB_len (n : Nat) (h : n ≠ 0) : (hiB n).length = (hiB (n / 128)).length + 1 := by rw [hiB_pos n h]; simp
theorem glen_big (n : Nat) (h : 128 ≤ n) : glen n = 1 + glen (n / 128) := by
  unfold glen enc
  rw [List.length_append, hiB_len (n / 128) (by omega)]
  simp
  omega
theorem glen_pos (n : Nat) : 1 ≤ glen n := by unfold glen enc; simp
theorem glen_bits : ∀ (k n : Nat), n < 128 ^ k → n < 18446744073709551616 → max 1 ((Lib.bitLen n + 6) / 7) = glen n
  | 0, n, h, _ => by
    have : n = 0 := by simpa using h
    subst this
    rw [glen_small 0 (by decide)]
    decide +kernel
  | k + 1, n, h, hn => by
    by_cases hs : n < 128
    · rw [glen_small n hs]
      have := Lib.bitLen_le n 7 (by decide) (by simpa using hs)
      omega
    · rw [glen_big n (by omega), ← glen_bits k (n / 128) (by rw [Nat.pow_succ] at h; omega) (by omega), Lib.bitLen_shift 7 n (by simpa using by omega) hn]
      have e : n / 2 ^ 7 = n / 128 := rfl
      rw [e]
      by_cases hz : Lib.bitLen (n / 128) = 0
      · have : Lib.bitLen (n / 128) = 1 + Lib.bitLen (n / 128 / 2) := Lib.bitLen_half _ (by omega) (by omega)
        omega
      · omega
theorem glen_le : ∀ (k n : Nat), n < 128 ^ k → 1 ≤ k → glen n ≤ k
  | 0, _, _, h => by omega
  | 1, n, h, _ => by rw [glen_small n (by simpa using h)]; omega
  | k + 2, n, h, _ => by
    by_cases hs : n < 128
    · rw [glen_small n hs]; omega
    · rw [glen_big n (by omega)]
      have := glen_le (k + 1) (n / 128) (by rw [Nat.pow_succ] at h; omega) (by omega)
      omega
theorem lt_128_10 (n : Nat) (h : n < 18446744073709551616) : n < 128 ^ 10 := Nat.lt_trans h (by decide)
theorem glen_le10 (n : Nat) (h : n < 18446744073709551616) : glen n ≤ 10 := glen_le 10 n (lt_128_10 n h) (by decide)
theorem glen_mono : ∀ (k a b : Nat), b < 128 ^ k → a ≤ b → glen a ≤ glen b
  | 0, a, b, h, h' => by
    have : b = 0 := by simpa using h
    have : a = b := by omega
    subst this
    exact Nat.le_refl _
  | k + 1, a, b, h, h' => by
    by_cases hs : a < 128
    · rw [glen_small a hs]; exact glen_pos b
    · rw [glen_big a (by omega), glen_big b (by omega)]
      have := glen_mono k (a / 128) (b / 128) (by rw [Nat.pow_succ] at h; omega) (by omega)
      omega

/-- The byte at place j of ten, the number right-aligned: 128 set everywhere. -/
def grp (n j : Nat) : Nat := n / 128 ^ (9 - j) % 128 + 128
theorem grp_lt (n j : Nat) : grp n j < 256 := by unfold grp; omega
theorem grp_ge (n j : Nat) : 128 ≤ grp n j := by unfold grp; omega

/-- The i-th byte of hiB, by its place from the end. -/
theorem hiB_at : ∀ (s n i : Nat), (hiB n).length = s → i < s → (hiB n)[i]? = some (UInt8.ofNat (n / 128 ^ (s - 1 - i) % 128 + 128))
  | 0, _, _, _, h => by omega
  | s + 1, n, i, hl, hi => by
    have hn : n ≠ 0 := by rintro rfl; rw [hiB_zero] at hl; simp at hl
    have hl' : (hiB (n / 128)).length = s := by rw [hiB_len n hn] at hl; omega
    rw [hiB_pos n hn]
    by_cases he : i = s
    · subst he
      rw [List.getElem?_append_right (by omega), hl']
      simp
    · rw [List.getElem?_append_left (by omega), hiB_at s (n / 128) i hl' (by omega)]
      have e : s + 1 - 1 - i = (s - 1 - i) + 1 := by omega
      rw [e, Nat.pow_succ, Nat.mul_comm, Nat.div_div_eq_div_mul]
theorem enc_at (n i : Nat) (hi : i < glen n) : (enc n)[i]? = some (UInt8.ofNat (if i + 1 = glen n then n % 128 else n / 128 ^ (glen n - 1 - i) % 128 + 128)) := by
  have hg : glen n = (hiB (n / 128)).length + 1 := by unfold glen enc; simp
  unfold enc
  by_cases he : i + 1 = glen n
  · rw [if_pos he, List.getElem?_append_right (by omega), show i - (hiB (n / 128)).length = 0 by omega]
    rfl
  · rw [if_neg he, List.getElem?_append_left (by omega), hiB_at (hiB (n / 128)).length (n / 128) i rfl (by omega)]
    have e : glen n - 1 - i = ((hiB (n / 128)).length - 1 - i) + 1 := by omega
    rw [e, Nat.pow_succ, Nat.mul_comm, Nat.div_div_eq_div_mul]
theorem enc_300 : enc 300 = [130, 44] := by
  unfold enc
  rw [hiB_pos _ (by decide), show (300 / 128 / 128 : Nat) = 0 by decide, hiB_zero]
  rfl
end Go.Proofs.Ytjigaoclngfcaaa
