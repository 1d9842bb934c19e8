/- Texts of signs alone: side by side; a byte more, or one less. -/
import Derived.Test.YtjeccmmhmdgdgaaGreatDoorSg
namespace Go.Proofs.YtjeccmmhmdgdgaaGreatDoor
open Go.Lib

/-- What nextN says of decL. -/
theorem dec_next (l : List UInt8) (hl : l ≠ []) (h : decL l ≠ (65533, 1)) : ∃ r k, nextN l = (r, k) ∧ decL l = (r, k) ∧ 0 < k := by
  obtain ⟨r, k, e⟩ : ∃ r k, nextN l = (r, k) := ⟨_, _, rfl⟩
  by_cases hk : k = 0
  · rcases (nextN_zero l r k e hk).2 with h1 | h1
    · exact absurd h1 hl
    · exact absurd h1 h
  · refine ⟨r, k, e, ?_, by omega⟩
    unfold nextN at e
    by_cases hc : (decL l).1 = 65533 ∧ (decL l).2 < 2
    · rw [if_pos hc] at e
      injection e with _ e2
      omega
    · rw [if_neg hc] at e
      exact e
theorem fuel (n : Nat) : ∀ (m : Nat) (l : List UInt8), l.length ≤ n → l.length ≤ m → validGoD n l = validGoD m l := by
  induction n with
  | zero =>
    intro m l h1 _
    obtain rfl : l = [] := List.length_eq_zero_iff.1 (by omega)
    cases m <;> simp [validGoD]
  | succ n ih =>
    intro m l h1 h2
    by_cases hl : l = []
    · subst hl
      cases m <;> simp [validGoD]
    · have hp := List.length_pos_iff.2 hl
      obtain ⟨m, rfl⟩ : ∃ m', m = m' + 1 := ⟨m - 1, by omega⟩
      unfold validGoD
      rw [if_neg hl, if_neg hl, decodeL_eq l hl]
      by_cases hc : (decL l).1 = 65533 ∧ (decL l).2 = 1
      · rw [if_pos hc, if_pos hc]
      · rw [if_neg hc, if_neg hc]
        obtain ⟨r, k, _, e, hk⟩ := dec_next l hl (fun e => hc (by rw [e]; exact ⟨rfl, rfl⟩))
        rw [e]
        exact ih _ _ (by simp; omega) (by simp; omega)
theorem valid_step (l : List UInt8) (r k : Nat) (h : nextN l = (r, k)) (hk : 0 < k) : validD l = validD (l.drop k) := by
  have hl : l ≠ [] := by
    rintro rfl
    have := (nextN_some [] r k h hk).2.1
    simp at this
    omega
  have hb : decL l ≠ (65533, 1) := fun e => by
    unfold nextN at h
    rw [e] at h
    simp at h
    omega
  obtain ⟨r', k', h1, e, _⟩ := dec_next l hl hb
  rw [h] at h1
  injection h1 with h2 h3
  subst h2; subst h3
  have hp := List.length_pos_iff.2 hl
  unfold validD
  obtain ⟨n, hn⟩ : ∃ n, l.length = n + 1 := ⟨l.length - 1, by omega⟩
  rw [hn]
  conv => lhs; unfold validGoD
  rw [if_neg hl, decodeL_eq l hl, e, if_neg (fun hc => hb (by rw [e]; exact Prod.ext hc.1 hc.2))]
  exact fuel _ _ _ (by simp; omega) (Nat.le_refl _)
theorem valid_enc_app (r : Nat) (hs : isSign r) (more : List UInt8) : validD (encS r ++ more) = validD more := by
  rw [valid_step _ r _ (nextN_enc r hs more) (by have := encS_len r; omega), List.drop_left]
theorem valid_enc (r : Nat) (hs : isSign r) : validD (encS r) = true := by
  have := valid_enc_app r hs []
  rwa [List.append_nil] at this
theorem valid_head (l : List UInt8) (hl : l ≠ []) (h : validD l = true) : ∃ r rest, isSign r ∧ l = encS r ++ rest ∧ validD rest = true := by
  have hb : decL l ≠ (65533, 1) := fun e => by rw [valid_bad l hl e] at h; cases h
  obtain ⟨r, k, hn, _, hk⟩ := dec_next l hl hb
  obtain ⟨hs, _, ht⟩ := nextN_some l r k hn hk
  refine ⟨r, l.drop k, hs, ?_, ?_⟩
  · rw [← ht]; exact (List.take_append_drop k l).symm
  · rw [← valid_step l r k hn hk]; exact h
theorem valid_app (n : Nat) : ∀ (a b : List UInt8), a.length ≤ n → validD a = true → validD (a ++ b) = validD b := by
  induction n with
  | zero => intro a b h _; rw [List.length_eq_zero_iff.1 (by omega : a.length = 0)]; rfl
  | succ n ih =>
    intro a b h ha
    by_cases hl : a = []
    · subst hl; rfl
    · obtain ⟨r, rest, hs, rfl, hr⟩ := valid_head a hl ha
      rw [List.append_assoc, valid_enc_app r hs, ih rest b (by have := encS_len r; simp at h; omega) hr]
theorem valid_cat (a b : List UInt8) (ha : validD a = true) : validD (a ++ b) = validD b := valid_app _ a b (Nat.le_refl _) ha
theorem enc_first (r : Nat) (hs : isSign r) : ∃ c t, encS r = c :: t ∧ (c.toNat < 128 ∨ 192 ≤ c.toNat) ∧ c.toNat < 248 := by
  unfold isSign at hs
  unfold encS
  split
  · exact ⟨_, _, rfl, .inl (by rw [ofNat_toNat _ (by omega)]; omega), by rw [ofNat_toNat _ (by omega)]; omega⟩
  · split
    · exact ⟨_, _, rfl, .inr (by rw [ofNat_toNat _ (by omega)]; omega), by rw [ofNat_toNat _ (by omega)]; omega⟩
    · split
      · exact ⟨_, _, rfl, .inr (by rw [ofNat_toNat _ (by omega)]; omega), by rw [ofNat_toNat _ (by omega)]; omega⟩
      · exact ⟨_, _, rfl, .inr (by rw [ofNat_toNat _ (by omega)]; omega), by rw [ofNat_toNat _ (by omega)]; omega⟩
/-- A byte with which no sign begins. -/
theorem valid_not (c : UInt8) (t : List UInt8) (h : (128 ≤ c.toNat ∧ c.toNat < 192) ∨ 248 ≤ c.toNat) : validD (c :: t) = false := by
  by_cases hv : validD (c :: t) = true
  · obtain ⟨r, rest, hs, e, _⟩ := valid_head _ (by simp) hv
    obtain ⟨c', t', e', h1, h2⟩ := enc_first r hs
    rw [e'] at e
    injection e with e1 _
    subst e1
    omega
  · simpa using hv
/-- A sign's bytes, cut. -/
theorem valid_cut (r : Nat) (hs : isSign r) (k : Nat) (h0 : 0 < k) (hk : k < (encS r).length) : validD ((encS r).take k) = false := by
  by_cases hv : validD ((encS r).take k) = true
  · exfalso
    have hne : (encS r).take k ≠ [] := by
      intro e
      have := congrArg List.length e
      rw [List.length_take, List.length_nil] at this
      omega
    obtain ⟨v, rest, hsv, e, _⟩ := valid_head _ hne hv
    have h1 := nextN_enc r hs []
    have h2 := nextN_enc v hsv (rest ++ (encS r).drop k)
    rw [← List.append_assoc, ← e, List.take_append_drop] at h2
    rw [List.append_nil, h2] at h1
    injection h1 with _ h3
    have := congrArg List.length e
    rw [List.length_take, List.length_append] at this
    omega
  · simpa using hv
/-- The bytes behind a sign's first. -/
theorem enc_tail (r : Nat) (h : 2 ≤ (encS r).length) : ∃ c c2 t, encS r = c :: c2 :: t ∧ 128 ≤ c2.toNat ∧ c2.toNat < 192 := by
  unfold encS at h ⊢
  split at h
  · simp at h
  · rename_i h1
    rw [if_neg h1]
    split
    · exact ⟨_, _, _, rfl, by rw [ofNat_toNat _ (by omega)]; omega, by rw [ofNat_toNat _ (by omega)]; omega⟩
    · split
      · exact ⟨_, _, _, rfl, by rw [ofNat_toNat _ (by omega)]; omega, by rw [ofNat_toNat _ (by omega)]; omega⟩
      · exact ⟨_, _, _, rfl, by rw [ofNat_toNat _ (by omega)]; omega, by rw [ofNat_toNat _ (by omega)]; omega⟩
theorem valid_tail (r : Nat) (h : 2 ≤ (encS r).length) (b : List UInt8) : validD ((encS r).drop 1 ++ b) = false := by
  obtain ⟨c, c2, t, e, h1, h2⟩ := enc_tail r h
  rw [e]
  exact valid_not c2 (t ++ b) (.inl ⟨h1, h2⟩)
end Go.Proofs.YtjeccmmhmdgdgaaGreatDoor
