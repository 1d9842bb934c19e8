/- Reading a number off bytes: plain functions and their laws. No Go in sight. -/
import Derived.Test.YtjigaoclngfcaaaVb
namespace Go.Proofs.Ytjigaoclngfcaaa
set_option maxRecDepth 100000

def getGo : Nat → Nat → List UInt8 → Option (Nat × Nat)
  | _, _, [] => none
  | acc, i, c :: l => if acc / 144115188075855872 ≠ 0 then none else if c.toNat < 128 then some (acc * 128 + c.toNat % 128, i + 1) else getGo (acc * 128 + c.toNat % 128) (i + 1) l
def getN (l : List UInt8) : Nat × Nat := if l[0]? = some 128 then (0, 0) else (getGo 0 0 l).getD (0, 0)

theorem getGo_over (acc i : Nat) (c : UInt8) (l : List UInt8) (h : acc / 144115188075855872 ≠ 0) : getGo acc i (c :: l) = none := by simp only [getGo]; rw [if_pos h]
theorem getGo_end (acc i : Nat) (c : UInt8) (l : List UInt8) (h : acc / 144115188075855872 = 0) (hc : c.toNat < 128) : getGo acc i (c :: l) = some (acc * 128 + c.toNat % 128, i + 1) := by
  simp only [getGo]; rw [if_neg (by simpa using h), if_pos hc]
theorem getGo_on (acc i : Nat) (c : UInt8) (l : List UInt8) (h : acc / 144115188075855872 = 0) (hc : ¬ c.toNat < 128) : getGo acc i (c :: l) = getGo (acc * 128 + c.toNat % 128) (i + 1) l := by
  rw [getGo.eq_2, if_neg (by simpa using h), if_neg hc]

theorem getGo_hiB : ∀ (f m : Nat) (rest : List UInt8), m < f → m < 144115188075855872 → getGo 0 0 (hiB m ++ rest) = getGo m (hiB m).length rest
  | 0, _, _, h, _ => by omega
  | f + 1, m, rest, h, h57 => by
    by_cases h0 : m = 0
    · subst h0; rw [hiB_zero]; rfl
    · rw [hiB_pos m h0, List.append_assoc, getGo_hiB f (m / 128) _ (by omega) (by omega)]
      have hc : (UInt8.ofNat (m % 128 + 128)).toNat = m % 128 + 128 := by rw [UInt8.toNat_ofNat']; omega
      rw [List.singleton_append, getGo_on _ _ _ _ (by omega) (by omega), hc]
      have e : m / 128 * 128 + (m % 128 + 128) % 128 = m := by omega
      rw [e]
      simp
theorem hiB_head : ∀ (f m : Nat), m < f → (hiB m)[0]? ≠ some 128
  | 0, _, h => by omega
  | f + 1, m, h => by
    by_cases h0 : m = 0
    · subst h0; rw [hiB_zero]; simp
    · rw [hiB_pos m h0]
      by_cases h1 : m < 128
      · rw [show m / 128 = 0 by omega, hiB_zero]
        simp only [List.nil_append, List.getElem?_cons_zero, ne_eq, Option.some.injEq]
        intro e
        have := congrArg UInt8.toNat e
        rw [UInt8.toNat_ofNat'] at this
        simp at this
        omega
      · have hl : 0 < (hiB (m / 128)).length := by rw [hiB_len _ (by omega)]; omega
        rw [List.getElem?_append_left hl]
        exact hiB_head f (m / 128) (by omega)
theorem enc_head (n : Nat) : (enc n)[0]? ≠ some 128 := by
  unfold enc
  by_cases h : n / 128 = 0
  · rw [h, hiB_zero]
    simp only [List.nil_append, List.getElem?_cons_zero, ne_eq, Option.some.injEq]
    intro e
    have := congrArg UInt8.toNat e
    rw [UInt8.toNat_ofNat'] at this
    simp at this
    omega
  · have hl : 0 < (hiB (n / 128)).length := by rw [hiB_len _ h]; omega
    rw [List.getElem?_append_left hl]
    exact hiB_head _ _ (Nat.lt_succ_self _)
/-- A number laid is read. -/
theorem getN_enc (n : Nat) (hn : n < 18446744073709551616) (more : List UInt8) : getN (enc n ++ more) = (n, glen n) := by
  unfold getN
  have hh := enc_head n
  have hp := glen_pos n
  rw [List.getElem?_append_left (by unfold glen at hp; omega), if_neg hh]
  have hc : (UInt8.ofNat (n % 128)).toNat = n % 128 := by rw [UInt8.toNat_ofNat']; omega
  have e : getGo 0 0 (enc n ++ more) = some (n, glen n) := by
    unfold enc
    rw [List.append_assoc, getGo_hiB _ (n / 128) _ (Nat.lt_succ_self _) (by omega), List.singleton_append, getGo_end _ _ _ _ (by omega) (by omega), hc]
    have e1 : n / 128 * 128 + n % 128 % 128 = n := by omega
    rw [e1]
    unfold glen enc
    simp
  rw [e]
  rfl
/-- What is read is laid so. -/
theorem getGo_enc : ∀ (l : List UInt8) (acc i n k : Nat), (acc = 0 → i = 0 ∧ l[0]? ≠ some 128) → getGo acc i l = some (n, k) → i < k ∧ k ≤ i + l.length ∧ n < 18446744073709551616 ∧ enc n = hiB acc ++ l.take (k - i)
  | [], _, _, _, _, _, h => by simp [getGo] at h
  | c :: l, acc, i, n, k, ha, h => by
    have hcl := c.toNat_lt
    by_cases ho : acc / 144115188075855872 = 0
    · by_cases hc : c.toNat < 128
      · rw [getGo_end _ _ _ _ ho hc] at h
        simp only [Option.some.injEq, Prod.mk.injEq] at h
        obtain ⟨rfl, rfl⟩ := h
        refine ⟨by omega, by simp, by omega, ?_⟩
        unfold enc
        rw [show (acc * 128 + c.toNat % 128) / 128 = acc by omega, show (acc * 128 + c.toNat % 128) % 128 = c.toNat by omega, show i + 1 - i = 1 by omega]
        simp
      · rw [getGo_on _ _ _ _ ho hc] at h
        have h0 : acc * 128 + c.toNat % 128 ≠ 0 := by
          intro e
          have ha0 : acc = 0 := by omega
          have := (ha ha0).2
          apply this
          simp only [List.getElem?_cons_zero, Option.some.injEq]
          apply UInt8.toNat_inj.1
          show c.toNat = 128
          omega
        obtain ⟨h1, h2, h3, h4⟩ := getGo_enc l _ _ n k (fun e => absurd e h0) h
        refine ⟨by omega, by simp; omega, h3, ?_⟩
        rw [h4, hiB_pos _ h0, show (acc * 128 + c.toNat % 128) / 128 = acc by omega, show k - i = (k - (i + 1)) + 1 by omega, List.take_succ_cons, show (acc * 128 + c.toNat % 128) % 128 + 128 = c.toNat by omega]
        simp
    · rw [getGo_over _ _ _ _ ho] at h
      cases h
theorem getN_some (l : List UInt8) (h : 0 < (getN l).2) : (getN l).2 ≤ l.length ∧ (getN l).1 < 18446744073709551616 ∧ enc (getN l).1 = l.take (getN l).2 := by
  unfold getN at h ⊢
  by_cases h0 : l[0]? = some 128
  · rw [if_pos h0] at h; simp at h
  · rw [if_neg h0] at h ⊢
    cases hg : getGo 0 0 l with
    | none => rw [hg] at h; simp at h
    | some p =>
      obtain ⟨n, k⟩ := p
      obtain ⟨h1, h2, h3, h4⟩ := getGo_enc l 0 0 n k (fun _ => ⟨rfl, h0⟩) hg
      rw [hiB_zero] at h4
      simp only [Option.getD_some, List.nil_append, Nat.sub_zero] at h4 ⊢
      exact ⟨by omega, h3, h4⟩
theorem getN_lt (l : List UInt8) : (getN l).1 < 18446744073709551616 ∧ (getN l).2 ≤ l.length ∧ ((getN l).2 = 0 → (getN l).1 = 0) := by
  unfold getN
  by_cases h0 : l[0]? = some 128
  · rw [if_pos h0]; simp
  · rw [if_neg h0]
    cases hg : getGo 0 0 l with
    | none => simp
    | some p =>
      obtain ⟨n, k⟩ := p
      obtain ⟨h1, h2, h3, h4⟩ := getGo_enc l 0 0 n k (fun _ => ⟨rfl, h0⟩) hg
      simp only [Option.getD_some]
      exact ⟨h3, by omega, by omega⟩
end Go.Proofs.Ytjigaoclngfcaaa
