/- Words that all begin alike: plain. -/
import Derived.Test.YtgpdpmbgadjooaaDcEs
import Derived.Test.YtgpdpmbgadjooaaDcPf
namespace Go.Proofs.Ytgpdpmbgadjooaa
set_option maxRecDepth 100000

theorem lt_app (p a b : B8) : p ++ a < p ++ b ↔ a < b := by
  induction p with
  | nil => exact Iff.rfl
  | cons c p ih =>
    rw [List.cons_append, List.cons_append, List.cons_lt_cons_iff]
    constructor
    · rintro (h | ⟨_, h⟩)
      · exact absurd h (UInt8.lt_irrefl c)
      · exact ih.1 h
    · exact fun h => .inr ⟨rfl, ih.2 h⟩
theorem app_rises (p : B8) (es : List B8) (h : es.Pairwise (· < ·)) : (es.map (p ++ ·)).Pairwise (· < ·) := by
  rw [List.pairwise_map]
  exact h.imp fun h => (lt_app p _ _).2 h
theorem dct_app (p : B8) (es : List B8) : dct (es.map (p ++ ·)) = (dct es).map (p ++ ·) := by
  refine rises_ext _ _ (dct_rises _) (app_rises p _ (dct_rises es)) fun a => ?_
  rw [dct_mem, List.mem_map, List.mem_map]
  constructor
  · rintro ⟨x, h, e⟩; exact ⟨x, (dct_mem es x).2 h, e⟩
  · rintro ⟨x, h, e⟩; exact ⟨x, (dct_mem es x).1 h, e⟩
theorem cnt_app (p : B8) (es : List B8) : cnt (es.map (p ++ ·)) p = 0 := by
  unfold cnt
  rw [List.countP_eq_zero]
  intro a ha
  obtain ⟨x, _, rfl⟩ := List.mem_map.1 ha
  have := pre_le p (p ++ x) (List.prefix_append p x)
  simpa using this
theorem pcnt_app (p : B8) (es : List B8) : cnt (es.map (p ++ ·)) p + pcnt (es.map (p ++ ·)) p = es.length := by
  unfold pcnt
  rw [cnt_app, List.drop_zero, Nat.zero_add, List.countP_eq_length.2, List.length_map]
  intro a ha
  obtain ⟨x, _, rfl⟩ := List.mem_map.1 ha
  exact (beg_iff _ _).2 (List.prefix_append p x)
theorem eWs_app (p : B8) (hp : p.length ≤ 30) : ∀ (es : List B8) (a : B8), a.length ≤ 40 → (∀ e ∈ es, e.length ≤ 40) → (eWs (p ++ a) (es.map (p ++ ·))).length = (eWs a es).length
  | [], _, _, _ => rfl
  | e :: es, a, ha, h => by
    have ih := eWs_app p hp es e (h e (by simp)) (fun x hx => h x (by simp [hx]))
    have he := h e (by simp)
    have hc := com_le a e
    simp only [List.map_cons, eWs, eW, List.length_append, ih, com_app]
    have g1 := glen_small (p.length + com a e) (by omega)
    have g2 := glen_small (com a e) (by omega)
    unfold glen at g1 g2
    have e1 : p.length + e.length - (p.length + com a e) = e.length - com a e := by omega
    rw [g1, g2, e1, List.length_drop, List.length_drop, List.length_append, e1]
theorem eD_app (p : B8) (hp : p.length ≤ 30) (es : List B8) (h : ∀ e ∈ es, e.length ≤ 40) : (eD (es.map (p ++ ·))).length ≤ (eD es).length + p.length := by
  cases es with
  | nil => simp
  | cons e es =>
    have he := h e (by simp)
    have ih := eWs_app p hp es e he (fun x hx => h x (by simp [hx]))
    have g1 := glen_small (p.length + e.length) (by omega)
    have g2 := glen_small e.length (by omega)
    unfold glen at g1 g2
    have z1 : ∀ x : B8, com [] x = 0 := fun x => by cases x <;> rfl
    simp only [eD, List.map_cons, eWs, eW, List.length_append, ih, z1, Nat.sub_zero, List.drop_zero, List.length_cons, List.length_map, g1, g2]
    omega
end Go.Proofs.Ytgpdpmbgadjooaa
