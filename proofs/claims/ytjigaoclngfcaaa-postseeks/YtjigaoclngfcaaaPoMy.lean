/- Hits of many documents: plain. -/
import Derived.Test.YtjigaoclngfcaaaPoRt
namespace Go.Proofs.Ytjigaoclngfcaaa
set_option maxRecDepth 100000

/-- Where the next one is behind so many: so many fours are passed over. -/
theorem skp_at (doc : Int) : ∀ (m : Nat) (pre : List HI) (x : HI) (t : List HI) (a : Int), pre.length ≤ m → rgt a (pre ++ x :: t) = true → (∀ h ∈ pre, h.1 < doc) → doc ≤ x.1 → skp doc (BL (pre ++ x :: t)) = pre.length / 4
  | m, pre, x, t, a, hm, hr, hp, hx => by
    have hne : pre ++ x :: t ≠ [] := by simp
    rw [BL_cons _ hne, skp]
    rw [← List.take_append_drop 4 (pre ++ x :: t), rgt_app, Bool.and_eq_true] at hr
    have hb := rgt_doc _ _ hr.1 (by cases pre <;> simp)
    rw [docOf_ne 0 a _ (by cases pre <;> simp)]
    rcases Nat.lt_or_ge pre.length 4 with h4 | h4
    · have hxm : x ∈ (pre ++ x :: t).take 4 := by
        rw [List.take_append, show 4 - pre.length = (3 - pre.length) + 1 by omega, List.take_succ_cons]
        simp
      have := hb.2.2 x hxm
      rw [if_neg (by omega)]
      omega
    · have ht : (pre ++ x :: t).take 4 = pre.take 4 := by rw [List.take_append_of_le_length h4]
      have hd : (pre ++ x :: t).drop 4 = pre.drop 4 ++ x :: t := by rw [List.drop_append_of_le_length h4]
      rw [ht, hd] at hr
      have hlt : docOf a (pre.take 4) < doc := by
        have hn : pre.take 4 ≠ [] := fun e => by have := congrArg List.length e; rw [List.length_take, List.length_nil] at this; omega
        unfold docOf
        rw [List.getLast?_map, List.getLast?_eq_some_getLast hn]
        exact hp _ (List.mem_of_mem_take (List.getLast_mem hn))
      rw [ht, if_pos hlt, hd]
      obtain ⟨m', rfl⟩ : ∃ m', m = m' + 1 := ⟨m - 1, by omega⟩
      rw [skp_at doc m' (pre.drop 4) x t _ (by rw [List.length_drop]; omega) hr.2 (fun h hh => hp h (List.mem_of_mem_drop hh)) hx, List.length_drop]
      omega
theorem skp_all (doc : Int) : ∀ (m : Nat) (hs : List HI), hs.length ≤ m → (∀ h ∈ hs, h.1 < doc) → skp doc (BL hs) = nbl hs.length
  | _, [], _, _ => rfl
  | 0, x :: t, h, _ => absurd h (by simp)
  | m + 1, x :: t, hm, hp => by
    have hn : (x :: t).take 4 ≠ [] := by simp
    have hlt : docOf 0 ((x :: t).take 4) < doc := by
      unfold docOf
      rw [List.getLast?_map, List.getLast?_eq_some_getLast hn]
      exact hp _ (List.mem_of_mem_take (List.getLast_mem hn))
    rw [BL_cons _ (by simp), skp, if_pos hlt, skp_all doc m _ (by rw [List.length_drop, List.length_cons] at *; omega) fun h hh => hp h (List.mem_of_mem_drop hh)]
    simp only [nbl, List.length_drop, List.length_cons]
    omega
def hM1 (p i : Nat) : HI := (((i * p : Nat) : Int), [(i : Int), (i : Int) + 1])
def hM (p n : Nat) : List HI := (List.range n).map (hM1 p)
theorem hM_succ (p n : Nat) : hM p (n + 1) = hM p n ++ [hM1 p n] := by unfold hM; rw [List.range_succ, List.map_append]; rfl
theorem hM_len (p n : Nat) : (hM p n).length = n := by simp [hM]
theorem hM_at (p n k : Nat) (h : k < n) : (hM p n)[k]? = some (hM1 p k) := by unfold hM; rw [List.getElem?_map, List.getElem?_range h]; rfl
theorem hM1_ok (p i : Nat) (hp : p ≤ 4) (hi : i < 128) (a : Int) (ha : a < ((i * p : Nat) : Int)) : rgt a [hM1 p i] = true := by
  have : i * p ≤ 127 * 4 := Nat.mul_le_mul (by omega) hp
  have e : rgt a [hM1 p i] = (decide (a < ((i * p : Nat) : Int)) && (decide (((i * p : Nat) : Int) < 1000) && (decide (0 < 2) && (decide ((-1 : Int) < i) && (decide ((i : Int) < 65536) && (decide ((i : Int) < i + 1) && (decide ((i : Int) + 1 < 65536) && true)))))) && true) := rfl
  rw [e, decide_eq_true ha, decide_eq_true (show ((i * p : Nat) : Int) < 1000 by omega), decide_eq_true (show (0 : Nat) < 2 by omega), decide_eq_true (show (-1 : Int) < i by omega), decide_eq_true (show (i : Int) < 65536 by omega), decide_eq_true (show (i : Int) < i + 1 by omega), decide_eq_true (show (i : Int) + 1 < 65536 by omega)]
  rfl
theorem hM_rgt (p : Nat) (hp1 : 1 ≤ p) (hp : p ≤ 4) : ∀ n, n ≤ 128 → rgt (-1) (hM p n) = true ∧ docOf (-1) (hM p n) < ((n * p : Nat) : Int)
  | 0, _ => ⟨rfl, by show (-1 : Int) < _; omega⟩
  | n + 1, h => by
    obtain ⟨h1, h2⟩ := hM_rgt p hp1 hp n (by omega)
    rw [hM_succ]
    refine ⟨by rw [rgt_app, h1, hM1_ok p n hp (by omega) _ h2]; rfl, ?_⟩
    have e : docOf (-1) (hM p n ++ [hM1 p n]) = ((n * p : Nat) : Int) := by unfold docOf; rw [List.map_append]; simp [hM1]
    rw [e, Nat.add_mul]
    omega
/-- What is sought among them. -/
theorem hM_seek (p n d : Nat) (hp1 : 1 ≤ p) (hp : p ≤ 4) (hn : n ≤ 128) (s : PS) (hs : s = openP (eP (hM p n))) (f : Nat) (hf : s.he + s.bh + 1 ≤ f) :
    (n ≤ (d + p - 1) / p → (seekP d f s).1 = none ∧ (seekP d f s).2.sk = (n + 3) / 4) ∧
    ((d + p - 1) / p < n → (seekP d f s).1 = some (toHN (hM1 p ((d + p - 1) / p))) ∧ (seekP d f s).2.sk = (d + p - 1) / p / 4) := by
  obtain ⟨hr, _⟩ := hM_rgt p hp1 hp n hn
  obtain ⟨hR, h0⟩ := RI.opened (hM p n) [] hr
  rw [List.append_nil, ← hs] at hR h0
  have hlt : ∀ i : Nat, ((i * p : Nat) : Int) < d ↔ i < (d + p - 1) / p := fun i => by
    have : i < (d + p - 1) / p ↔ (i + 1) * p ≤ d + p - 1 := by rw [Nat.lt_iff_add_one_le, Nat.le_div_iff_mul_le hp1]
    rw [this, Nat.add_mul]
    omega
  generalize (d + p - 1) / p = K at *
  have hall : ∀ h ∈ hM p n, ∃ i, i < n ∧ h = hM1 p i := fun h hh => by
    obtain ⟨i, hi, rfl⟩ := List.mem_map.1 hh
    exact ⟨i, List.mem_range.1 hi, rfl⟩
  rcases RI.seek (d : Int) f s (-1) [] (hM p n) hR hf with ⟨g1, s2, a2, g2, _, g4⟩ | ⟨pre, x, c2, r2, s2, g0, g1, g2, g3, _, g5⟩
  · rw [List.nil_append] at g1
    rw [show bel (d : Int) [] = true from rfl, if_pos rfl, skp_all _ n _ (by rw [hM_len]; exact Nat.le_refl _) g1, hM_len, h0] at g4
    rw [g2]
    refine ⟨fun _ => ⟨rfl, by rw [g4]; simp [nbl]⟩, fun hk => ?_⟩
    have := g1 (hM1 p K) (List.mem_map.2 ⟨K, List.mem_range.2 hk, rfl⟩)
    have := (hlt K).1 this
    omega
  · rw [List.nil_append] at g0
    have hpl : pre.length < n := by
      have := congrArg List.length g0
      rw [hM_len, List.length_append, List.length_cons] at this
      omega
    have ex : x = hM1 p pre.length := by
      have := hM_at p n pre.length hpl
      rw [g0, List.getElem?_append_right (Nat.le_refl _), Nat.sub_self] at this
      exact Option.some.inj this
    have hge : K ≤ pre.length := by
      refine Nat.le_of_not_lt fun h => ?_
      have := (hlt pre.length).2 h
      rw [ex] at g2
      have g2' : (d : Int) ≤ ((pre.length * p : Nat) : Int) := g2
      omega
    have hle : pre.length ≤ K := by
      refine Nat.le_of_not_lt fun h => ?_
      have hm := hM_at p n K (by omega)
      rw [g0, List.getElem?_append_left h] at hm
      have := g1 _ (List.mem_of_getElem? hm)
      have := (hlt K).1 this
      omega
    have eK : pre.length = K := by omega
    rw [show bel (d : Int) [] = true from rfl, if_pos rfl, h0, g0, skp_at _ pre.length pre x _ (-1) (Nat.le_refl _) (by rw [← g0]; exact hr) g1 g2, eK] at g5
    rw [g3, ex, eK]
    exact ⟨fun h => by omega, fun _ => ⟨rfl, by rw [g5]; simp⟩⟩
end Go.Proofs.Ytjigaoclngfcaaa
