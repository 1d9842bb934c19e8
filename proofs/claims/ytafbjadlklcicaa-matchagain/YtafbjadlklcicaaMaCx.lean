/- Whether a span lies in one of others: sorted, with the ends that end last so far. -/
import Derived.Test.YtafbjadlklcicaaMaSe
namespace Go.Proofs.Ytafbjadlklcicaa
open Go.RowKit
set_option maxRecDepth 100000

/-- t lies around s. -/
def rnd (s t : Sp) : Bool := decide (t.1 ≤ s.1) && decide (s.2.1 ≤ t.2.1)
def covB (ts : List Sp) (s : Sp) : Bool := ts.any (rnd s)
theorem covB_perm {l m : List Sp} (h : List.Perm l m) (s : Sp) : covB l s = covB m s := by
  unfold covB
  rw [Bool.eq_iff_iff, List.any_eq_true, List.any_eq_true]
  exact ⟨fun ⟨t, ht, e⟩ => ⟨t, h.mem_iff.1 ht, e⟩, fun ⟨t, ht, e⟩ => ⟨t, h.mem_iff.2 ht, e⟩⟩
/-- The ends that end last so far. -/
def topE (ts : List Sp) : Nat → Int
  | 0 => (ts.getD 0 (0, 0, 0, 0)).2.1
  | k + 1 => max (ts.getD (k + 1) (0, 0, 0, 0)).2.1 (topE ts k)
theorem topE_ge (ts : List Sp) : ∀ k j, j ≤ k → (ts.getD j (0, 0, 0, 0)).2.1 ≤ topE ts k
  | 0, j, h => by rw [show j = 0 by omega]; exact Int.le_refl _
  | k + 1, j, h => by
    show _ ≤ max _ _
    rcases Nat.lt_or_ge j (k + 1) with h1 | h1
    · have := topE_ge ts k j (by omega)
      omega
    · rw [show j = k + 1 by omega]
      omega
theorem topE_at (ts : List Sp) : ∀ k, ∃ j, j ≤ k ∧ topE ts k = (ts.getD j (0, 0, 0, 0)).2.1
  | 0 => ⟨0, Nat.le_refl _, rfl⟩
  | k + 1 => by
    obtain ⟨j, h1, h2⟩ := topE_at ts k
    show ∃ j, j ≤ k + 1 ∧ max _ _ = _
    rcases Int.le_total (topE ts k) (ts.getD (k + 1) (0, 0, 0, 0)).2.1 with h | h
    · exact ⟨k + 1, Nat.le_refl _, by omega⟩
    · exact ⟨j, by omega, by omega⟩
/-- Of spans that rise by where they begin: r of them begin no later. -/
theorem cov_top (ts : List Sp) (s : Sp) (r : Nat) (hr : r ≤ ts.length) (h1 : ∀ t, t < r → (ts.getD t (0, 0, 0, 0)).1 ≤ s.1) (h2 : ∀ t, r ≤ t → t < ts.length → s.1 < (ts.getD t (0, 0, 0, 0)).1) :
    covB ts s = (decide (0 < r) && decide (s.2.1 ≤ topE ts (r - 1))) := by
  rw [Bool.eq_iff_iff]
  unfold covB
  rw [List.any_eq_true, Bool.and_eq_true, decide_eq_true_eq, decide_eq_true_eq]
  constructor
  · rintro ⟨t, ht, e⟩
    obtain ⟨j, hj, rfl⟩ := List.getElem_of_mem ht
    unfold rnd at e
    rw [Bool.and_eq_true, decide_eq_true_eq, decide_eq_true_eq] at e
    have hg : ts.getD j (0, 0, 0, 0) = ts[j] := by rw [List.getD_eq_getElem?_getD, List.getElem?_eq_getElem hj]; rfl
    have hjr : j < r := by
      rcases Nat.lt_or_ge j r with h | h
      · exact h
      · have := h2 j h hj
        rw [hg] at this
        omega
    have := topE_ge ts (r - 1) j (by omega)
    rw [hg] at this
    exact ⟨by omega, by omega⟩
  · rintro ⟨hp, he⟩
    obtain ⟨j, hj, ej⟩ := topE_at ts (r - 1)
    have hjl : j < ts.length := by omega
    have hg : ts.getD j (0, 0, 0, 0) = ts[j] := by rw [List.getD_eq_getElem?_getD, List.getElem?_eq_getElem hjl]; rfl
    refine ⟨ts[j], List.getElem_mem hjl, ?_⟩
    unfold rnd
    rw [Bool.and_eq_true, decide_eq_true_eq, decide_eq_true_eq]
    have := h1 j (by omega)
    rw [hg] at this ej
    exact ⟨this, by omega⟩
end Go.Proofs.Ytafbjadlklcicaa
