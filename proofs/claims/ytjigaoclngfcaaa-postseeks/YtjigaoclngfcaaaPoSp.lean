/- Seeking again and again: plain. Seek of no cursor. -/
import Derived.Test.YtjigaoclngfcaaaPoMy
import Derived.Test.YtjigaoclngfcaaaPoOp
namespace Go.Proofs.Ytjigaoclngfcaaa
open Go.RowKit
set_option maxRecDepth 100000

theorem seeks_step (hs : List HI) (at_ p : Nat) (d : Int) (s : PS) (a : Int) (cur rest : List HI) (hR : RI [] s a cur rest) (hD : cur ++ rest = hs.drop at_) (f : Nat) (hf : s.he + s.bh + 1 ≤ f) (hp1 : at_ ≤ p)
    (hp2 : ∀ i (h : i < hs.length), at_ ≤ i → i < p → hs[i].1 < d) (hend : ∀ h : p < hs.length, d ≤ hs[p].1) :
    ∃ a2 c2 r2, RI [] (seekP d f s).2 a2 c2 r2 ∧ c2 ++ r2 = hs.drop (p + 1) ∧ ((hs.length ≤ p ∧ (seekP d f s).1 = none) ∨ ∃ h : p < hs.length, (seekP d f s).1 = some (toHN hs[p])) := by
  rcases RI.seek d f s a cur rest hR hf with ⟨g1, s2, a2, g2, g3, _⟩ | ⟨pre, x, c2, r2, s2, g0, g1, g2, g3, g4, _⟩
  · have hpn : hs.length ≤ p := by
      refine Nat.le_of_not_lt fun h => ?_
      have h1 := hend h
      have h2 := g1 hs[p] (by
        rw [hD]
        have : hs[p] = (hs.drop at_)[p - at_]'(by rw [List.length_drop]; omega) := by rw [List.getElem_drop]; congr 1; omega
        rw [this]
        exact List.getElem_mem _)
      omega
    rw [g2]
    exact ⟨a2, [], [], g3, by rw [List.drop_eq_nil_of_le (by omega)]; rfl, .inl ⟨hpn, rfl⟩⟩
  · rw [hD] at g0
    have hl : (hs.drop at_).length = pre.length + 1 + (c2 ++ r2).length := by rw [g0, List.length_append, List.length_cons]; omega
    rw [List.length_drop] at hl
    have hx : ∀ h : at_ + pre.length < hs.length, hs[at_ + pre.length] = x := fun h => by
      have e := congrArg (·[pre.length]?) g0
      simp only [List.getElem?_drop, List.getElem?_append_right (Nat.le_refl _), Nat.sub_self, List.getElem?_cons_zero] at e
      rw [List.getElem?_eq_getElem h] at e
      exact Option.some.inj e
    have hlt : at_ + pre.length < hs.length := by omega
    have hpre : ∀ i, (h : at_ + i < hs.length) → i < pre.length → hs[at_ + i].1 < d := fun i h hi => by
      have e := congrArg (·[i]?) g0
      simp only [List.getElem?_drop, List.getElem?_append_left hi] at e
      rw [List.getElem?_eq_getElem h, List.getElem?_eq_getElem hi] at e
      rw [Option.some.inj e]
      exact g1 _ (List.getElem_mem hi)
    have e1 : p = at_ + pre.length := by
      rcases Nat.lt_trichotomy p (at_ + pre.length) with h | h | h
      · have h1 := hpre (p - at_) (by omega) (by omega)
        have h2 := hend (by omega)
        simp only [show at_ + (p - at_) = p by omega] at h1
        omega
      · exact h
      · have h1 := hp2 (at_ + pre.length) hlt (by omega) h
        rw [hx hlt] at h1
        omega
    subst e1
    rw [g3]
    refine ⟨x.1, c2, r2, g4, ?_, .inr ⟨hlt, by rw [hx hlt]⟩⟩
    have e := congrArg (List.drop (pre.length + 1)) g0
    have e2 : (pre ++ x :: (c2 ++ r2)).drop (pre.length + 1) = c2 ++ r2 := by
      rw [show pre ++ x :: (c2 ++ r2) = (pre ++ [x]) ++ (c2 ++ r2) by simp]
      exact List.drop_left' (by simp)
    rw [List.drop_drop, e2] at e
    rw [show at_ + pre.length + 1 = at_ + (pre.length + 1) by omega, e]
theorem hits_back : ∀ (hs : List HI) (a : Int), rgt a hs = true → -1 ≤ a → ∀ h ∈ hs, toHI (toHN h) = h ∧ 0 ≤ h.1
  | [], _, _, _, h, hh => by cases hh
  | x :: t, a, k, ha, h, hh => by
    rw [rgt, Bool.and_eq_true] at k
    have hx := (rgt_at [x] a (by rw [rgt, Bool.and_eq_true]; exact ⟨k.1, rfl⟩) x (by simp)).1
    rcases List.mem_cons.1 hh with rfl | hh
    · exact ⟨toHI_toHN ha k.1, by omega⟩
    · exact hits_back t x.1 k.2 (by omega) h hh
theorem hit_back (hs : List HI) (hr : rgt (-1) hs = true) (p : Nat) (hp : p < hs.length) : ((toHN hs[p]).1 : Int) = hs[p].1 ∧ (toHN hs[p]).2.map (fun (n : Nat) => (n : Int)) = hs[p].2 ∧ (toHN hs[p]).2.length = hs[p].2.length := by
  have e := (hits_back hs (-1) hr (Int.le_refl _) hs[p] (List.getElem_mem hp)).1
  refine ⟨congrArg Prod.fst e, congrArg Prod.snd e, ?_⟩
  have := congrArg List.length (congrArg Prod.snd e)
  rw [← this]
  simp [toHI]
set_option maxHeartbeats 1000000 in
theorem seek_none (doc : Int) (w : World) :
    Calls Try.prog 22 #[.pointer none, .int .i64 doc] w fun e w' => e = .returned (.tuple #[.agg #[.int .i64 0, .slice none 0 0], .bool false]) ∧ Below w.heap.size w w' := by
  go_enter Try.func22, Try.ntmps22
  go_wp2_with fail
  refine bodyPost_ret (v := .tuple #[.agg #[.int .i64 0, .slice none 0 0], .bool false]) ?_ rfl ⟨rfl, (Below.refl _ _).alloc (Nat.le_refl _) _⟩
  simp [results, Try.results22, go_sem]
end Go.Proofs.Ytjigaoclngfcaaa
