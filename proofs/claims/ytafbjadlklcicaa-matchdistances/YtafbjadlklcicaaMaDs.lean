/- MatchDistances: the law's own way: the next one, again and again. -/
import Derived.Test.YtafbjadlklcicaaMaDi
import Derived.Test.YtafbjadlklcicaaMaWe
import Derived.Laws.EntriesVeiled
import Derived.Deep.RegionLaw
namespace Go.Proofs.Ytafbjadlklcicaa
open Go.RowKit Go.Shelf
set_option maxRecDepth 100000

abbrev d0S : Sp := (0, 0, 0, 0)
/-- One is ahead of another one: by where they begin, then by where they end. -/
def ltS' (a b : Sp) : Bool := decide (a.1 < b.1) || (a.1 == b.1 && decide (a.2.1 < b.2.1))
theorem ltS'_iff (a b : Sp) : ltS' a b = true ↔ (a.1 < b.1 ∨ (a.1 = b.1 ∧ a.2.1 < b.2.1)) := by
  unfold ltS'
  simp only [Bool.or_eq_true, Bool.and_eq_true, decide_eq_true_eq, beq_iff_eq]
/-- Which of the first k is the best. -/
def bst (l : List Sp) : Nat → Nat
  | 0 => 0
  | k + 1 => if ltS' (l.getD k d0S) (l.getD (bst l k) d0S) = true then k else bst l k
theorem bst_lt (l : List Sp) (h : 0 < l.length) : ∀ k, k ≤ l.length → bst l k < l.length
  | 0, _ => h
  | k + 1, hk => by
    rw [bst]
    split
    · omega
    · exact bst_lt l h k (by omega)
theorem bst_min (l : List Sp) : ∀ k, ∀ j, j < k → ltS' (l.getD j d0S) (l.getD (bst l k) d0S) = false
  | 0, j, h => absurd h (Nat.not_lt_zero _)
  | k + 1, j, h => by
    rw [bst]
    by_cases hc : ltS' (l.getD k d0S) (l.getD (bst l k) d0S) = true
    · rw [if_pos hc]
      rcases Nat.lt_or_ge j k with hj | hj
      · have := bst_min l k j hj
        rw [← Bool.not_eq_true, ltS'_iff] at *
        omega
      · obtain rfl : j = k := by omega
        rw [← Bool.not_eq_true, ltS'_iff]
        omega
    · rw [if_neg hc]
      rcases Nat.lt_or_ge j k with hj | hj
      · exact bst_min l k j hj
      · obtain rfl : j = k := by omega
        exact Bool.eq_false_iff.2 hc
def dlP (r : Ky → Ky → Bool) : Nat → Sp → List Sp → Bool
  | 0, _, _ => true
  | f + 1, last, l => if decide (0 ≤ last.1) && !r (kyS last) (kyS (l.getD (bst l l.length) d0S)) then false else dlP r f (l.getD (bst l l.length) d0S) (l.eraseIdx (bst l l.length))
def ldP (r : Ky → Ky → Bool) (l : List Sp) : Bool := dlP r l.length (-1, 0, 0, 0) l
theorem sortK_cons (k : Ky) (l : List Ky) (h : ∀ x ∈ l, leK k x = true) : sortK (k :: l) = k :: sortK l := by
  rw [sortK]
  have h' : ∀ x ∈ sortK l, leK k x = true := fun x hx => h x ((sortK_perm l).subset hx)
  cases e : sortK l with
  | nil => rfl
  | cons y t =>
    rw [insK, if_pos (h' y (by rw [e]; simp))]
theorem sortK_of_perm {a b : List Ky} (h : List.Perm a b) : sortK a = sortK b :=
  ((sortK_perm a).trans (h.trans (sortK_perm b).symm)).eq_of_pairwise (fun x y _ _ h1 h2 => by rw [leK_iff] at h1 h2; exact Prod.ext (by omega) (by omega)) (sortK_sorted _) (sortK_sorted _)
theorem getD_at (l : List Sp) (i : Nat) (h : i < l.length) : l.getD i d0S = l[i] := by rw [List.getD_eq_getElem?_getD, List.getElem?_eq_getElem h]; rfl
theorem dlP_sort (r : Ky → Ky → Bool) : ∀ (f : Nat) (last : Sp) (l : List Sp), l.length = f → (∀ s ∈ l, 0 ≤ s.1) → dlP r f last l = if 0 ≤ last.1 then adjK r (kyS last :: sortK (l.map kyS)) else adjK r (sortK (l.map kyS))
  | 0, last, l, h, _ => by
    rw [List.eq_nil_of_length_eq_zero h]
    simp [dlP, sortK, adjK]
  | f + 1, last, l, h, hg => by
    have hp : 0 < l.length := by omega
    have hi := bst_lt l hp l.length (Nat.le_refl _)
    have hmin := bst_min l l.length
    rw [dlP]
    generalize bst l l.length = i at hi hmin ⊢
    rw [getD_at l i hi] at hmin ⊢
    have hperm : List.Perm l (l[i] :: l.eraseIdx i) := by
      have k := List.perm_middle (a := l[i]) (l₁ := l.take i) (l₂ := l.drop (i + 1))
      rw [← List.drop_eq_getElem_cons hi, List.take_append_drop] at k
      rw [List.eraseIdx_eq_take_drop_succ]
      exact k
    have hs : sortK (l.map kyS) = kyS l[i] :: sortK ((l.eraseIdx i).map kyS) := by
      rw [sortK_of_perm (hperm.map kyS), List.map_cons, sortK_cons]
      intro x hx
      obtain ⟨s, hs, rfl⟩ := List.mem_map.1 hx
      obtain ⟨j, hj, rfl⟩ := List.getElem_of_mem (List.mem_of_mem_eraseIdx hs)
      have := hmin j hj
      rw [getD_at l j hj, ← Bool.not_eq_true, ltS'_iff] at this
      rw [leK_iff]
      dsimp only [kyS]
      omega
    have ih := dlP_sort r f l[i] (l.eraseIdx i) (by rw [List.length_eraseIdx, if_pos hi]; omega) fun s hs => hg s (List.mem_of_mem_eraseIdx hs)
    rw [if_pos (hg l[i] (List.getElem_mem hi))] at ih
    rw [ih, hs]
    by_cases h0 : 0 ≤ last.1
    · rw [if_pos h0, decide_eq_true h0, Bool.true_and, adjK]
      cases r (kyS last) (kyS l[i]) <;> simp
    · rw [if_neg h0, decide_eq_false h0, Bool.false_and]
      simp
theorem ldP_eq (r : Ky → Ky → Bool) {l : List Sp} (h : okL l) : ldP r l = nbP r l := by
  unfold ldP nbP
  rw [dlP_sort r l.length _ l rfl fun s hs => (h s hs).1, if_neg (by decide)]
theorem spCs_drop : ∀ (l : List Sp) (i : Nat), (spCs l).drop (i * 4) = spCs (l.drop i)
  | [], i => by simp [spCs_nil]
  | s :: t, 0 => by simp
  | s :: t, i + 1 => by
    rw [List.drop_succ_cons, spCs_cons, show (i + 1) * 4 = (spC s).length + i * 4 by rw [show (spC s).length = 4 from rfl]; omega, List.drop_length_add_append, spCs_drop t i]
end Go.Proofs.Ytafbjadlklcicaa
