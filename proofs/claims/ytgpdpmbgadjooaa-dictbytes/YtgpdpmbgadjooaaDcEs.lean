/- Words as bytes: laid by what they have in common with the one ahead; and read. Plain lists, no Go in sight. -/
import Derived.Test.YtgpdpmbgadjooaaRdSp
import Derived.Test.YtgpdpmbgadjooaaDcSpec
namespace Go.Proofs.Ytgpdpmbgadjooaa
set_option maxRecDepth 100000

/-- How many bytes two words have in common at their beginnings. -/
def com : B8 → B8 → Nat
  | a :: v, b :: w => if a = b then com v w + 1 else 0
  | _, _ => 0
theorem com_le : ∀ v w : B8, com v w ≤ v.length ∧ com v w ≤ w.length
  | [], _ => by simp [com]
  | _ :: _, [] => by simp [com]
  | a :: v, b :: w => by
    have := com_le v w
    simp only [com]
    split <;> simp <;> omega
theorem com_take : ∀ v w : B8, v.take (com v w) = w.take (com v w)
  | [], _ => by simp [com]
  | _ :: _, [] => by simp [com]
  | a :: v, b :: w => by
    simp only [com]
    split
    · rename_i h; subst h; simp [com_take v w]
    · simp
theorem com_eq : ∀ (v w : B8) (n : Nat), n ≤ v.length → n ≤ w.length → (∀ j, j < n → v[j]? = w[j]?) → (n < v.length → n < w.length → v[n]? ≠ w[n]?) → com v w = n
  | [], _, n, h, _, _, _ => by simp at h; simp [com, h]
  | _ :: _, [], n, _, h, _, _ => by simp at h; simp [com, h]
  | a :: v, b :: w, 0, _, _, _, h => by
    simp only [com]
    have := h (by simp) (by simp)
    simp at this
    rw [if_neg this]
  | a :: v, b :: w, n + 1, h1, h2, h3, h4 => by
    simp only [com]
    have h0 := h3 0 (by omega)
    simp at h0
    rw [if_pos h0, com_eq v w n (by simpa using h1) (by simpa using h2) (fun j hj => by simpa using h3 (j + 1) (by omega)) (fun a b => by simpa using h4 (by simpa using a) (by simpa using b))]
theorem com_app (p v w : B8) : com (p ++ v) (p ++ w) = p.length + com v w := by
  induction p with
  | nil => simp
  | cons a p ih => simp only [List.cons_append, com, if_true, ih, List.length_cons]; omega

/-- A word behind another one. -/
def eW (a w : B8) : B8 := enc (com a w) ++ (enc (w.length - com a w) ++ w.drop (com a w))
def eWs : B8 → List B8 → B8
  | _, [] => []
  | a, w :: ws => eW a w ++ eWs w ws
def eD (ws : List B8) : B8 := enc ws.length ++ eWs [] ws
def lastD (a : B8) (ws : List B8) : B8 := ws.getLast?.getD a
theorem eWs_snoc : ∀ (ws : List B8) (a w : B8), eWs a (ws ++ [w]) = eWs a ws ++ eW (lastD a ws) w
  | [], a, w => by simp [eWs, lastD]
  | x :: ws, a, w => by
    rw [List.cons_append, eWs, eWs, eWs_snoc ws x w, List.append_assoc]
    congr 2
    unfold lastD
    cases ws with
    | nil => rfl
    | cons y t => simp [List.getLast?_cons]
theorem eWs_len : ∀ (ws : List B8) (a : B8) (m : Nat), (∀ w ∈ ws, w.length ≤ m) → m < 18446744073709551616 → (eWs a ws).length ≤ ws.length * (m + 20) ∧ 2 * ws.length ≤ (eWs a ws).length
  | [], a, m, _, _ => by simp [eWs]
  | w :: ws, a, m, h, hm => by
    have ih := eWs_len ws w m (fun x hx => h x (by simp [hx])) hm
    have hw := h w (by simp)
    have hc := com_le a w
    have g1 := glen_le10 (com a w) (by omega)
    have g2 := glen_le10 (w.length - com a w) (by omega)
    have p1 := glen_pos (com a w)
    have p2 := glen_pos (w.length - com a w)
    unfold glen at g1 g2 p1 p2
    simp only [eWs, eW, List.length_append, List.length_cons, List.length_drop, Nat.add_mul, Nat.one_mul]
    omega

def badW (first : Bool) (a : B8) (n : Nat) (w : B8) : Bool := (!first && decide (w ≤ a)) || decide (com a w ≠ n)
theorem badW_no {first : Bool} {a w : B8} (hf : first = false → a < w) : badW first a (com a w) w = false := by
  unfold badW
  cases first with
  | true => simp
  | false =>
    have h : ¬ w ≤ a := fun k => k (hf rfl)
    simp [h]
theorem badW_ok {first : Bool} {a w : B8} {n : Nat} (h : badW first a n w = false) : com a w = n ∧ (first = false → a < w) := by
  unfold badW at h
  simp only [Bool.or_eq_false_iff, decide_eq_false_iff_not, ne_eq, Decidable.not_not, Bool.and_eq_false_iff] at h
  refine ⟨h.2, fun hf => ?_⟩
  subst hf
  rcases h.1 with k | k
  · simp at k
  · rcases tri a w with q | q | q
    · exact q
    · subst q; exact absurd (le_rf a) k
    · exact absurd (le_of q) k
def wOf (a : B8) (n : Nat) (t : B8) : B8 := a.take n ++ t
def dW1 (first : Bool) (a : B8) (n : Nat) (q : B8 × B8) : Option (B8 × B8) := bif badW first a n (wOf a n q.1) then none else some (wOf a n q.1, q.2)
/-- A word is read behind another one. -/
def dW (first : Bool) (a l : B8) : Option (B8 × B8) := (rdN l a.length).bind fun p => (rdT p.2).bind fun q => dW1 first a p.1 q
def dWs : Nat → Bool → B8 → B8 → Option (List B8 × B8)
  | 0, _, _, l => some ([], l)
  | n + 1, f, a, l => (dW f a l).bind fun p => (dWs n false p.1 p.2).map fun q => (p.1 :: q.1, q.2)
def dD (l : B8) : Option (List B8 × B8) := (rdN l l.length).bind fun p => dWs p.1 true [] p.2
theorem dW_enc (first : Bool) (a w more : B8) (hf : first = false → a < w) (hw : w.length < 18446744073709551616) : dW first a (eW a w ++ more) = some (w, more) := by
  have hc := com_le a w
  have e : wOf a (com a w) (w.drop (com a w)) = w := by unfold wOf; rw [com_take, List.take_append_drop]
  have hl : (w.drop (com a w)).length = w.length - com a w := List.length_drop
  unfold dW eW
  rw [List.append_assoc, rdN_enc _ _ _ hc.1 (by omega), Option.bind_some, ← hl, List.append_assoc, rdT_enc _ _ (by omega), Option.bind_some, dW1, e, badW_no hf]
  rfl
theorem dWs_enc : ∀ (ws : List B8) (first : Bool) (a more : B8), (first = false → ∀ w ∈ ws.head?, a < w) → ws.Pairwise (· < ·) → (∀ w ∈ ws, w.length < 18446744073709551616) → dWs ws.length first a (eWs a ws ++ more) = some (ws, more)
  | [], _, _, _, _, _, _ => rfl
  | w :: ws, first, a, more, hf, hp, hl => by
    obtain ⟨p1, p2⟩ := List.pairwise_cons.1 hp
    rw [List.length_cons, dWs, eWs, List.append_assoc, dW_enc first a w _ (fun h => hf h w (by simp)) (hl w (by simp)), Option.bind_some]
    simp only
    rw [dWs_enc ws false w more (fun _ x hx => p1 x (List.mem_of_mem_head? hx)) p2 (fun x hx => hl x (by simp [hx]))]
    rfl
theorem dD_enc (ws : List B8) (more : B8) (hp : ws.Pairwise (· < ·)) (hl : ∀ w ∈ ws, w.length ≤ 1000000000) (hn : ws.length < 18446744073709551616) : dD (eD ws ++ more) = some (ws, more) := by
  unfold dD eD
  have := (eWs_len ws [] 1000000000 hl (by decide)).2
  rw [List.append_assoc, rdN_enc _ _ _ (by simp; omega) hn, Option.bind_some]
  exact dWs_enc ws true [] more (fun h => by cases h) hp (fun w hw => by have := hl w hw; omega)
theorem dW_some {first : Bool} {a l w r : B8} (h0 : dW first a l = some (w, r)) : l = eW a w ++ r ∧ (first = false → a < w) ∧ w.length + r.length ≤ a.length + l.length := by
  unfold dW at h0
  obtain ⟨⟨n, m⟩, h1, h3⟩ := Option.bind_eq_some_iff.1 h0
  obtain ⟨⟨t, q⟩, h2, h⟩ := Option.bind_eq_some_iff.1 h3
  clear h0 h3
  obtain ⟨rfl, hn, _⟩ := rdN_some h1
  obtain ⟨e2, _⟩ := rdT_some h2
  simp only at e2
  subst e2
  change (bif badW first a n (wOf a n t) then none else some (wOf a n t, q)) = some (w, r) at h
  cases hb : badW first a n (wOf a n t) with
  | true => rw [hb] at h; cases h
  | false =>
    rw [hb] at h
    simp only [cond_false, Option.some.injEq, Prod.mk.injEq] at h
    obtain ⟨rfl, rfl⟩ := h
    obtain ⟨hcm, hlt⟩ := badW_ok hb
    have htl : (a.take n).length = n := by rw [List.length_take]; omega
    refine ⟨?_, hlt, ?_⟩
    · unfold eW
      rw [hcm]
      have e1 : (wOf a n t).length - n = t.length := by unfold wOf; rw [List.length_append, htl]; omega
      have e2 : (wOf a n t).drop n = t := by unfold wOf; rw [List.drop_append, htl, Nat.sub_self, List.drop_of_length_le (by omega)]; rfl
      rw [e1, e2]
      simp
    · simp only [wOf, List.length_append, htl]
      omega
theorem dWs_some : ∀ (n : Nat) (first : Bool) (a l : B8) (ws : List B8) (r : B8), dWs n first a l = some (ws, r) → l = eWs a ws ++ r ∧ ws.length = n ∧ (first = false → ∀ w ∈ ws.head?, a < w) ∧ ws.Pairwise (· < ·) ∧ ∀ w ∈ ws, w.length + r.length ≤ a.length + l.length
  | 0, first, a, l, ws, r, h => by
    simp only [dWs, Option.some.injEq, Prod.mk.injEq] at h
    obtain ⟨rfl, rfl⟩ := h
    exact ⟨rfl, rfl, fun _ w hw => by simp at hw, .nil, fun w hw => by simp at hw⟩
  | n + 1, first, a, l, ws, r, h => by
    rw [dWs] at h
    obtain ⟨⟨w, m⟩, h1, h⟩ := Option.bind_eq_some_iff.1 h
    obtain ⟨⟨us, q⟩, h2, h⟩ := Option.map_eq_some_iff.1 h
    simp only [Prod.mk.injEq] at h h2
    obtain ⟨rfl, rfl⟩ := h
    obtain ⟨e1, lt1, z1⟩ := dW_some h1
    obtain ⟨e2, n2, lt2, p2, z2⟩ := dWs_some n false w m us q h2
    refine ⟨by rw [e1, e2, eWs, List.append_assoc], by simp [n2], fun hf x hx => ?_, ?_, fun x hx => ?_⟩
    · simp at hx; subst hx; exact lt1 hf
    · refine List.pairwise_cons.2 ⟨fun x hx => ?_, p2⟩
      cases us with
      | nil => simp at hx
      | cons y t =>
        have hy := lt2 rfl y (by simp)
        rcases List.mem_cons.1 hx with rfl | hx
        · exact hy
        · exact lt_tr hy ((List.pairwise_cons.1 p2).1 x hx)
    · have hq : q.length ≤ m.length := by rw [e2]; simp
      rcases List.mem_cons.1 hx with rfl | hx
      · omega
      · have := z2 x hx; omega
theorem dD_some {l : B8} {ws : List B8} {r : B8} (h : dD l = some (ws, r)) : l = eD ws ++ r ∧ ws.Pairwise (· < ·) ∧ (∀ w ∈ ws, w.length ≤ l.length) ∧ ws.length ≤ l.length := by
  unfold dD at h
  obtain ⟨⟨n, m⟩, h1, h⟩ := Option.bind_eq_some_iff.1 h
  simp only at h
  obtain ⟨e1, hn, _⟩ := rdN_some h1
  obtain ⟨e2, n2, _, p2, z2⟩ := dWs_some n true [] m ws r h
  refine ⟨by rw [e1, e2, eD, n2, List.append_assoc], p2, fun w hw => ?_, by omega⟩
  have := z2 w hw
  rw [e1]
  simp at this ⊢
  omega
/-- Cut off they are none. -/
theorem dD_cut (ws : List B8) (hp : ws.Pairwise (· < ·)) (hl : ∀ w ∈ ws, w.length ≤ 1000) (hn : ws.length ≤ 1000) (c : Nat) (hc : c < (eD ws).length) : dD ((eD ws).take c) = none := by
  cases h : dD ((eD ws).take c) with
  | none => rfl
  | some p =>
    obtain ⟨us, r⟩ := p
    exfalso
    obtain ⟨e1, p1, z1, n1⟩ := dD_some h
    have hb : (eD ws).length ≤ 1000000 * 2 := by
      have := (eWs_len ws [] 1000 hl (by decide)).1
      have g := glen_le10 ws.length (by omega)
      unfold glen at g
      have : ws.length * (1000 + 20) ≤ 1000 * 1020 := Nat.mul_le_mul hn (by decide)
      simp only [eD, List.length_append]
      omega
    have a1 := dD_enc ws [] hp (fun w hw => by have := hl w hw; omega) (by omega)
    rw [List.append_nil, ← List.take_append_drop c (eD ws), e1, List.append_assoc] at a1
    have hz : ∀ w ∈ us, w.length ≤ 1000000000 := fun w hw => by
      have h3 := z1 w hw
      rw [List.length_take] at h3
      omega
    have a2 := dD_enc us (r ++ (eD ws).drop c) p1 hz (by rw [List.length_take] at n1; omega)
    rw [a2] at a1
    simp only [Option.some.injEq, Prod.mk.injEq, List.append_eq_nil_iff] at a1
    have := a1.2.2
    rw [List.drop_eq_nil_iff] at this
    omega
end Go.Proofs.Ytgpdpmbgadjooaa
