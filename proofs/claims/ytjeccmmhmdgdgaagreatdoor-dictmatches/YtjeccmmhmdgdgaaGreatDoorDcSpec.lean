/- Words in order, each once, as plain lists. No Go in sight. -/
import Derived.Lib.SlicesCompact
import Derived.Sort.Walk0
namespace Go.Proofs.YtjeccmmhmdgdgaaGreatDoor.Dc
open Go.Lib
set_option maxRecDepth 100000

abbrev B8 := List UInt8
theorem lt_irr (a : B8) : ¬ a < a := List.lt_irrefl a
theorem lt_tr {a b c : B8} (h : a < b) (k : b < c) : a < c := List.lt_trans h k
theorem le_iff_nlt (a b : B8) : a ≤ b ↔ ¬ b < a := Iff.rfl
theorem le_rf (a : B8) : a ≤ a := lt_irr a
theorem tri (a b : B8) : a < b ∨ a = b ∨ b < a := by
  by_cases h : a < b
  · exact .inl h
  · by_cases k : b < a
    · exact .inr (.inr k)
    · exact .inr (.inl (List.le_antisymm k h))
theorem le_of {a b : B8} (h : a < b) : a ≤ b := fun k => lt_irr a (lt_tr h k)
theorem le_cases {a b : B8} (h : a ≤ b) : a < b ∨ a = b := by
  rcases tri a b with k | k | k
  · exact .inl k
  · exact .inr k
  · exact absurd k h
theorem le_tr {a b c : B8} (h : a ≤ b) (k : b ≤ c) : a ≤ c := by
  rcases le_cases h with h1 | rfl
  · rcases le_cases k with k1 | rfl
    · exact le_of (lt_tr h1 k1)
    · exact le_of h1
  · exact k
theorem lt_le {a b c : B8} (h : a < b) (k : b ≤ c) : a < c := by
  rcases le_cases k with k1 | rfl
  · exact lt_tr h k1
  · exact h
theorem le_lt {a b c : B8} (h : a ≤ b) (k : b < c) : a < c := by
  rcases le_cases h with h1 | rfl
  · exact lt_tr h1 k
  · exact k
theorem le_tot (a b : B8) : a ≤ b ∨ b ≤ a := by
  rcases tri a b with k | rfl | k
  · exact .inl (le_of k)
  · exact .inl (le_rf a)
  · exact .inr (le_of k)
def srt (xs : List B8) : List B8 := xs.mergeSort fun x y => decide (x ≤ y)
def dct (xs : List B8) : List B8 := compact (srt xs)
theorem srt_perm (xs : List B8) : (srt xs).Perm xs := List.mergeSort_perm _ _
theorem srt_sorted (xs : List B8) : (srt xs).Pairwise (· ≤ ·) := by
  have h := List.pairwise_mergeSort (le := fun x y : B8 => decide (x ≤ y)) (fun a b c h k => by simp only [decide_eq_true_eq] at *; exact le_tr h k) (fun a b => by simp only [Bool.or_eq_true, decide_eq_true_eq]; exact le_tot a b) xs
  exact h.imp fun h => of_decide_eq_true h
theorem upTo_congr (d d' : Array B8) (m : Nat) (h : ∀ j, j < m → d[j]! = d'[j]!) : compactUpTo d m = compactUpTo d' m := by
  unfold compactUpTo
  have h1 : (List.range m).filter (keeps d) = (List.range m).filter (keeps d') := by
    refine List.filter_congr fun j hj => ?_
    have hj' := List.mem_range.1 hj
    unfold keeps
    rw [h j hj', h (j - 1) (by omega)]
  rw [h1]
  refine List.map_congr_left fun j hj => ?_
  exact h j (List.mem_range.1 (List.mem_filter.1 hj).1)
theorem get_app (zs : List B8) (x : B8) (j : Nat) (h : j < zs.length) : (zs ++ [x]).toArray[j]! = zs.toArray[j]! := by
  rw [getElem!_pos _ j (by simp; omega), getElem!_pos _ j (by simpa using h)]
  simp [List.getElem_append_left h]
theorem compact_snoc (zs : List B8) (x : B8) (l : B8) : compact (zs ++ [l] ++ [x]) = compact (zs ++ [l]) ++ (if x = l then [] else [x]) := by
  unfold compact
  rw [List.length_append, List.length_singleton, compactUpTo_succ]
  congr 1
  · exact upTo_congr _ _ _ fun j hj => get_app _ x j hj
  · have e1 : (zs ++ [l] ++ [x]).toArray[(zs ++ [l]).length]! = x := by rw [getElem!_pos _ _ (by simp)]; simp
    have e2 : (zs ++ [l] ++ [x]).toArray[(zs ++ [l]).length - 1]! = l := by rw [getElem!_pos _ _ (by simp)]; simp
    unfold keeps
    rw [e1, e2]
    by_cases h : x = l
    · subst h; simp
    · simp [h]
theorem compact_one (x : B8) : compact [x] = [x] := rfl
theorem compact_facts : ∀ (n : Nat) (zs : List B8), zs.length = n → zs.Pairwise (· ≤ ·) → (compact zs).Pairwise (· < ·) ∧ (∀ a, a ∈ compact zs ↔ a ∈ zs) := by
  intro n
  induction n with
  | zero => intro zs h _; obtain rfl := List.eq_nil_of_length_eq_zero h; exact ⟨List.Pairwise.nil, fun a => Iff.rfl⟩
  | succ n ih =>
    intro zs hn hs
    obtain ⟨ys, x, rfl⟩ : ∃ ys x, zs = ys ++ [x] := ⟨zs.dropLast, zs.getLast (by intro e; subst e; simp at hn), (List.dropLast_concat_getLast _).symm⟩
    rw [List.length_append, List.length_singleton] at hn
    obtain ⟨h1, _, h3⟩ := List.pairwise_append.1 hs
    obtain ⟨i1, i2⟩ := ih ys (by omega) h1
    rcases List.eq_nil_or_concat ys with rfl | ⟨us, l, rfl⟩
    · rw [List.nil_append, compact_one]; exact ⟨List.pairwise_singleton _ _, fun a => Iff.rfl⟩
    · rw [List.concat_eq_append] at *
      rw [compact_snoc]
      by_cases hx : x = l
      · rw [if_pos hx, List.append_nil]
        exact ⟨i1, fun a => by rw [i2 a]; subst hx; simp⟩
      · rw [if_neg hx]
        have hl : l ≤ x := h3 l (by simp) x (by simp)
        have hlx : l < x := (le_cases hl).elim id fun e => absurd e.symm hx
        refine ⟨List.pairwise_append.2 ⟨i1, List.pairwise_singleton _ _, fun a ha b hb => ?_⟩, fun a => ?_⟩
        · obtain rfl := List.mem_singleton.1 hb
          have ha' := (i2 a).1 ha
          rcases List.mem_append.1 ha' with h | h
          · exact le_lt ((List.pairwise_append.1 h1).2.2 a h l (by simp)) hlx
          · obtain rfl := List.mem_singleton.1 h; exact hlx
        · rw [List.mem_append, i2 a, List.mem_append (s := us ++ [l])]
theorem dct_rises (xs : List B8) : (dct xs).Pairwise (· < ·) := (compact_facts _ _ rfl (srt_sorted xs)).1
theorem dct_mem (xs : List B8) (a : B8) : a ∈ dct xs ↔ a ∈ xs := ((compact_facts _ _ rfl (srt_sorted xs)).2 a).trans (srt_perm xs).mem_iff
theorem compact_len (zs : List B8) : (compact zs).length ≤ zs.length := by
  unfold compact compactUpTo
  rw [List.length_map]
  refine Nat.le_trans (List.length_filter_le _ _) ?_
  simp
theorem srt_len (xs : List B8) : (srt xs).length = xs.length := (srt_perm xs).length_eq
theorem dct_len (xs : List B8) : (dct xs).length ≤ xs.length := by unfold dct; have := compact_len (srt xs); rw [srt_len] at this; exact this
/-- Lists that rise and have the same members are the same. -/
theorem rises_ext : ∀ (xs ys : List B8), xs.Pairwise (· < ·) → ys.Pairwise (· < ·) → (∀ a, a ∈ xs ↔ a ∈ ys) → xs = ys
  | [], [], _, _, _ => rfl
  | [], y :: t, _, _, h => by have := (h y).2 (by simp); simp at this
  | x :: s, [], _, _, h => by have := (h x).1 (by simp); simp at this
  | x :: s, y :: t, h1, h2, h => by
    obtain ⟨p1, q1⟩ := List.pairwise_cons.1 h1
    obtain ⟨p2, q2⟩ := List.pairwise_cons.1 h2
    have hxy : x = y := by
      rcases tri x y with k | k | k
      · have : x ∈ y :: t := (h x).1 (by simp)
        rcases List.mem_cons.1 this with e | e
        · exact e
        · exact absurd (lt_tr k (p2 x e)) (lt_irr x)
      · exact k
      · have : y ∈ x :: s := (h y).2 (by simp)
        rcases List.mem_cons.1 this with e | e
        · exact e.symm
        · exact absurd (lt_tr k (p1 y e)) (lt_irr y)
    subst hxy
    congr 1
    refine rises_ext s t q1 q2 fun a => ?_
    constructor
    · intro ha
      rcases List.mem_cons.1 ((h a).1 (by simp [ha])) with e | e
      · subst e; exact absurd (p1 a ha) (lt_irr a)
      · exact e
    · intro ha
      rcases List.mem_cons.1 ((h a).2 (by simp [ha])) with e | e
      · subst e; exact absurd (p2 a ha) (lt_irr a)
      · exact e
/-- How many are ahead of a word; whether it is there. -/
def cnt (ws : List B8) (w : B8) : Nat := ws.countP fun x => decide (x < w)
theorem cnt_le (ws : List B8) (w : B8) : cnt ws w ≤ ws.length := List.countP_le_length
theorem cnt_eq (ws : List B8) (w : B8) (i : Nat) (hi : i ≤ ws.length) (h1 : ∀ j (h : j < ws.length), j < i → ws[j] < w) (h2 : ∀ j (h : j < ws.length), i ≤ j → ¬ ws[j] < w) : cnt ws w = i := by
  unfold cnt
  conv => lhs; rw [← List.take_append_drop i ws]
  rw [List.countP_append, List.countP_eq_length.2 (fun a ha => ?_), List.countP_eq_zero.2 (fun a ha => ?_), List.length_take]
  · omega
  · obtain ⟨j, hj, rfl⟩ := List.mem_iff_getElem.1 ha
    rw [List.getElem_drop]
    simpa using h2 _ (by rw [List.length_drop] at hj; omega) (by omega)
  · obtain ⟨j, hj, rfl⟩ := List.mem_iff_getElem.1 ha
    rw [List.getElem_take]
    rw [List.length_take] at hj
    simpa using h1 j (by omega) (by omega)
theorem rises_at {ws : List B8} (hr : ws.Pairwise (· < ·)) (i j : Nat) (hij : i < j) (hj : j < ws.length) : ws[i]'(by omega) < ws[j] := List.pairwise_iff_getElem.1 hr i j (by omega) hj hij
/-- A place i parts a rising list. -/
theorem cnt_parts {ws : List B8} (hr : ws.Pairwise (· < ·)) (w : B8) : (∀ j (h : j < ws.length), j < cnt ws w → ws[j] < w) ∧ (∀ j (h : j < ws.length), cnt ws w ≤ j → ¬ ws[j] < w) := by
  obtain ⟨i, hi, h1, h2⟩ : ∃ i, i ≤ ws.length ∧ (∀ j (h : j < ws.length), j < i → ws[j] < w) ∧ (∀ j (h : j < ws.length), i ≤ j → ¬ ws[j] < w) := by
    induction ws with
    | nil => exact ⟨0, by simp, fun j h => by simp at h, fun j h => by simp at h⟩
    | cons a t ih =>
      obtain ⟨p, q⟩ := List.pairwise_cons.1 hr
      by_cases ha : a < w
      · obtain ⟨i, hi, h1, h2⟩ := ih q
        refine ⟨i + 1, by simp; omega, fun j h hj => ?_, fun j h hj => ?_⟩
        · cases j with
          | zero => exact ha
          | succ j => exact h1 j (by simpa using h) (by omega)
        · cases j with
          | zero => omega
          | succ j => exact h2 j (by simpa using h) (by omega)
      · refine ⟨0, by simp, fun j h hj => by omega, fun j h _ => ?_⟩
        cases j with
        | zero => exact ha
        | succ j => exact fun k => ha (lt_tr (p _ (List.getElem_mem (by simpa using h))) k)
  rw [cnt_eq ws w i hi h1 h2]
  exact ⟨h1, h2⟩
theorem found_iff {ws : List B8} (hr : ws.Pairwise (· < ·)) (w : B8) : w ∈ ws ↔ ∃ h : cnt ws w < ws.length, ws[cnt ws w] = w := by
  obtain ⟨h1, h2⟩ := cnt_parts hr w
  constructor
  · intro hw
    obtain ⟨i, hi, rfl⟩ := List.mem_iff_getElem.1 hw
    have hle : cnt ws ws[i] ≤ i := by
      rcases Nat.lt_or_ge i (cnt ws ws[i]) with k | k
      · exact absurd (h1 i hi k) (lt_irr _)
      · exact k
    refine ⟨by omega, ?_⟩
    rcases Nat.lt_or_ge (cnt ws ws[i]) i with k | k
    · exact absurd (rises_at hr _ i k hi) (h2 _ (by omega) (Nat.le_refl _))
    · have e : cnt ws ws[i] = i := by omega
      simp only [e]
  · rintro ⟨h, e⟩
    rw [← e]
    exact List.getElem_mem h
end Go.Proofs.YtjeccmmhmdgdgaaGreatDoor.Dc
