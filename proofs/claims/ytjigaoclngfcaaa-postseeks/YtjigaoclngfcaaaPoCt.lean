/- PostCuts answers true. -/
import Derived.Test.YtjigaoclngfcaaaPoDd
import Derived.Test.YtjigaoclngfcaaaPoRl
namespace Go.Proofs.Ytjigaoclngfcaaa
open Go.RowKit
set_option maxRecDepth 100000

theorem enc3 (n : Nat) (h : n < 2097152) : (enc n).length ≤ 3 := by
  have := glen_le 3 n (by omega) (by decide)
  unfold glen at this
  exact this
theorem eAt3 : ∀ (xs : List Int) (a : Int) (p : Nat), upI a 65536 xs = true → ah a p → (eAt p xs).length ≤ 3 * xs.length
  | [], _, _, _, _ => by simp [eAt]
  | n :: t, a, p, h, k => by
    obtain ⟨h1, h2, h3⟩ := upI_some h
    obtain ⟨e1, e2, e3, e4, _⟩ := ah_df k h1 h2 (Int.le_refl _)
    have ih := eAt3 t n n.toNat h3 (.inl e3.symm)
    rw [e3] at ih
    have g := enc3 (df n p) (by omega)
    simp only [eAt, List.length_append, List.length_cons]
    omega
theorem eHit3 (h : HI) (a : Int) (d : Nat) (k : hitOk a h = true) (hd : ah a d) (hl : h.2.length ≤ 20) : (eHit d h).length ≤ 66 := by
  simp only [hitOk, Bool.and_eq_true, decide_eq_true_eq] at k
  obtain ⟨k1, k2, _, k4⟩ := k
  obtain ⟨e1, _, _, e4, _⟩ := ah_df hd k1 k2 (by decide)
  have g1 := enc3 (df h.1 d) (by omega)
  have g2 := enc3 h.2.length (by omega)
  have g3 := eAt3 h.2 (-1) 0 k4 (.inr ⟨rfl, rfl⟩)
  have g3' : (eAt 0 h.2).length ≤ 3 * h.2.length := g3
  simp only [eHit, List.length_append]
  omega
theorem eBl3 : ∀ (hs : List HI) (a : Int) (d : Nat), rgt a hs = true → -1 ≤ a → ah a d → (∀ h ∈ hs, h.2.length ≤ 20) → (eBl d hs).length ≤ hs.length * 66
  | [], _, _, _, _, _, _ => by simp [eBl]
  | h :: t, a, d, k, ha, hd, hl => by
    rw [rgt, Bool.and_eq_true] at k
    have k1 := (rgt_at [h] a (by rw [rgt, Bool.and_eq_true]; exact ⟨k.1, rfl⟩) h (by simp)).1
    have g := eHit3 h a d k.1 hd (hl h (by simp))
    have e : (h.1.toNat : Int) = h.1 := by omega
    have ih := eBl3 t h.1 h.1.toNat k.2 (by omega) (.inl e.symm) (fun x hx => hl x (by simp [hx]))
    rw [e] at ih
    simp only [eBl, List.length_append, List.length_cons]
    omega
theorem eBs3 : ∀ (m : Nat) (hs : List HI) (a : Int) (d : Nat), hs.length ≤ m → rgt a hs = true → -1 ≤ a → ah a d → (∀ h ∈ hs, h.2.length ≤ 20) → (eBs d (BL hs)).length ≤ hs.length * 72
  | _, [], _, _, _, _, _, _, _ => by show (([] : B8')).length ≤ _; simp
  | 0, x :: t, _, _, hm, _, _, _, _ => absurd hm (by simp)
  | m + 1, x :: t, a, d, hm, k, ha, hd, hl => by
    have hne : x :: t ≠ [] := by simp
    have hbn : (x :: t).take 4 ≠ [] := by simp
    have k' := k
    rw [← List.take_append_drop 4 (x :: t), rgt_app, Bool.and_eq_true] at k'
    obtain ⟨u1, u2⟩ := k'
    obtain ⟨d1, d2, _⟩ := rgt_doc _ _ u1 hbn
    have ed : docOf 0 ((x :: t).take 4) = docOf a ((x :: t).take 4) := docOf_ne _ _ _ hbn
    obtain ⟨e1, _, e3, e4, _⟩ := ah_df hd d1 d2 (by decide)
    have g3 := eBl3 _ a d u1 ha hd (fun h hh => hl h (List.mem_of_mem_take hh))
    have hbl : ((x :: t).take 4).length ≤ 4 ∧ 1 ≤ ((x :: t).take 4).length := by rw [List.length_take, List.length_cons]; omega
    have g1 := enc3 (df (docOf a ((x :: t).take 4)) d) (by omega)
    have g2 := enc3 (eBl d ((x :: t).take 4)).length (by omega)
    have ih := eBs3 m ((x :: t).drop 4) _ (docOf a ((x :: t).take 4)).toNat (by rw [List.length_drop, List.length_cons] at *; omega) u2 (by omega) (.inl e3.symm) (fun h hh => hl h (List.mem_of_mem_drop hh))
    rw [e3] at ih
    have hsum : ((x :: t).take 4).length + ((x :: t).drop 4).length = (x :: t).length := by rw [← List.length_append, List.take_append_drop]
    rw [BL_cons _ hne]
    simp only [eBs, eB1, ed, List.length_append]
    omega
theorem eP_few (hs : List HI) (h : rgt (-1) hs = true) (hf : fewH hs = true) : (eP hs).length ≤ 5000 ∧ 0 < (eP hs).length := by
  unfold fewH at hf
  rw [Bool.and_eq_true, List.all_eq_true] at hf
  have h40 := of_decide_eq_true hf.2
  have g := eBs3 hs.length hs (-1) 0 (Nat.le_refl _) h (Int.le_refl _) (.inr ⟨rfl, rfl⟩) fun x hx => of_decide_eq_true (hf.1 x hx)
  have g1 := enc3 hs.length (by omega)
  have g0 := glen_pos hs.length
  unfold glen at g0
  have g' : (eBs 0 ((List.range (nbl hs.length)).map (blk hs))).length ≤ hs.length * 72 := g
  unfold eP
  rw [List.length_append]
  omega
end Go.Proofs.Ytjigaoclngfcaaa
