/- A Reader's numbers and texts as plain functions on bytes. No Go in sight. -/
import Derived.Test.YtjigaoclngfcaaaVg
namespace Go.Proofs.Ytjigaoclngfcaaa
set_option maxRecDepth 100000

/-- A number at most so great, and what is behind it. -/
def rdN (l : List UInt8) (most : Nat) : Option (Nat × List UInt8) := if (getN l).2 = 0 ∨ most < (getN l).1 then none else some ((getN l).1, l.drop (getN l).2)
def rdT (l : List UInt8) : Option (List UInt8 × List UInt8) := (rdN l l.length).bind fun p => if p.2.length < p.1 then none else some (p.2.take p.1, p.2.drop p.1)
theorem rdN_enc (n : Nat) (more : List UInt8) (most : Nat) (h : n ≤ most) (h64 : n < 18446744073709551616) : rdN (enc n ++ more) most = some (n, more) := by
  unfold rdN
  have hp := glen_pos n
  rw [getN_enc n h64 more, if_neg (by simp; omega)]
  simp [glen]
theorem rdT_enc (t more : List UInt8) (h64 : t.length < 18446744073709551616) : rdT (enc t.length ++ (t ++ more)) = some (t, more) := by
  unfold rdT
  rw [rdN_enc _ _ _ (by simp; omega) h64]
  simp
theorem rdN_some {l : List UInt8} {most n : Nat} {r : List UInt8} (h : rdN l most = some (n, r)) : l = enc n ++ r ∧ n ≤ most ∧ n < 18446744073709551616 := by
  unfold rdN at h
  by_cases hc : (getN l).2 = 0 ∨ most < (getN l).1
  · rw [if_pos hc] at h; cases h
  · rw [if_neg hc] at h
    simp only [Option.some.injEq, Prod.mk.injEq] at h
    obtain ⟨rfl, rfl⟩ := h
    obtain ⟨h1, h2, h3⟩ := getN_some l (by omega)
    exact ⟨by rw [h3, List.take_append_drop], by omega, h2⟩
theorem rdT_some {l t r : List UInt8} (h : rdT l = some (t, r)) : l = enc t.length ++ (t ++ r) ∧ t.length < 18446744073709551616 := by
  unfold rdT at h
  obtain ⟨⟨n, m⟩, h1, h2⟩ := Option.bind_eq_some_iff.1 h
  obtain ⟨e1, _, e3⟩ := rdN_some h1
  by_cases hc : m.length < n
  · rw [if_pos hc] at h2; cases h2
  · rw [if_neg hc] at h2
    simp only [Option.some.injEq, Prod.mk.injEq] at h2
    obtain ⟨rfl, rfl⟩ := h2
    have hl : (m.take n).length = n := by rw [List.length_take]; omega
    rw [hl, List.take_append_drop]
    exact ⟨e1, e3⟩
theorem rdN_len {l r : List UInt8} {most n : Nat} (h : rdN l most = some (n, r)) : r.length < l.length := by
  obtain ⟨e, _, _⟩ := rdN_some h
  have := glen_pos n
  rw [e, List.length_append]
  unfold glen at this
  omega
theorem rdT_len {l t r : List UInt8} (h : rdT l = some (t, r)) : t.length + r.length < l.length := by
  obtain ⟨e, _⟩ := rdT_some h
  have := glen_pos t.length
  rw [e, List.length_append, List.length_append]
  unfold glen at this
  omega
end Go.Proofs.Ytjigaoclngfcaaa
