/- utf.Map by the page: a text sign by sign; what is none stays. -/
import Derived.Test.YtjeccmmhmdgdgaaGreatDoorVd
import Derived.Test.YtjeccmmhmdgdgaaGreatDoorPlainSpec
namespace Go.Proofs.YtjeccmmhmdgdgaaGreatDoor
open Go.Lib
set_option maxRecDepth 100000

/-- What a number lays: a sign's bytes, or none. -/
def putL (c : Int) : List UInt8 := if 0 ≤ c ∧ isSign c.toNat then encS c.toNat else []
theorem putL_sign (r : Nat) (h : isSign r) : putL (r : Int) = encS r := by unfold putL; rw [if_pos ⟨by omega, by simpa using h⟩]; rfl
theorem putL_len (c : Int) : (putL c).length ≤ 4 := by
  unfold putL
  split
  · exact (encS_len _).2
  · simp
def mapGo (g : Nat → Int) : Nat → List UInt8 → List UInt8
  | 0, _ => []
  | n + 1, l => if l = [] then [] else if (nextN l).2 = 0 then l.take 1 ++ mapGo g n (l.drop 1) else putL (g (nextN l).1) ++ mapGo g n (l.drop (nextN l).2)
def mapL (g : Nat → Int) (l : List UInt8) : List UInt8 := mapGo g l.length l

theorem mapGo_fuel (g : Nat → Int) (n : Nat) : ∀ (m : Nat) (l : List UInt8), l.length ≤ n → l.length ≤ m → mapGo g n l = mapGo g m l := by
  induction n with
  | zero =>
    intro m l h1 _
    obtain rfl : l = [] := List.length_eq_zero_iff.1 (by omega)
    cases m <;> simp [mapGo]
  | succ n ih =>
    intro m l h1 h2
    by_cases hl : l = []
    · subst hl
      cases m <;> simp [mapGo]
    · have hp := List.length_pos_iff.2 hl
      obtain ⟨m, rfl⟩ : ∃ m', m = m' + 1 := ⟨m - 1, by omega⟩
      unfold mapGo
      rw [if_neg hl, if_neg hl]
      by_cases hc : (nextN l).2 = 0
      · rw [if_pos hc, if_pos hc, ih m (l.drop 1) (by simp; omega) (by simp; omega)]
      · rw [if_neg hc, if_neg hc, ih m _ (by simp; omega) (by simp; omega)]
theorem mapL_nil (g : Nat → Int) : mapL g [] = [] := rfl
theorem mapL_bad (g : Nat → Int) (l : List UInt8) (hl : l ≠ []) (h : (nextN l).2 = 0) : mapL g l = l.take 1 ++ mapL g (l.drop 1) := by
  have hp := List.length_pos_iff.2 hl
  unfold mapL
  obtain ⟨n, hn⟩ : ∃ n, l.length = n + 1 := ⟨l.length - 1, by omega⟩
  rw [hn]
  conv => lhs; unfold mapGo
  rw [if_neg hl, if_pos h, mapGo_fuel g n _ _ (by simp; omega) (Nat.le_refl _)]
theorem mapL_sign (g : Nat → Int) (l : List UInt8) (r k : Nat) (h : nextN l = (r, k)) (hk : 0 < k) : mapL g l = putL (g r) ++ mapL g (l.drop k) := by
  have hkl := (nextN_some l r k h hk).2.1
  have hl : l ≠ [] := by
    rintro rfl
    simp at hkl
    omega
  unfold mapL
  obtain ⟨n, hn⟩ : ∃ n, l.length = n + 1 := ⟨l.length - 1, by omega⟩
  rw [hn]
  conv => lhs; unfold mapGo
  rw [if_neg hl, h, if_neg (by simp only; omega), mapGo_fuel g n _ _ (by simp; omega) (Nat.le_refl _)]
theorem mapL_enc (g : Nat → Int) (r : Nat) (hs : isSign r) (more : List UInt8) : mapL g (encS r ++ more) = putL (g r) ++ mapL g more := by
  rw [mapL_sign g _ r _ (nextN_enc r hs more) (by have := encS_len r; omega), List.drop_left]

/-- A text is empty, or begins with a sign, or with a byte that begins none. -/
theorem text_ind {P : List UInt8 → Prop} (h0 : P []) (h1 : ∀ r more, isSign r → P more → P (encS r ++ more)) (h2 : ∀ c t, (nextN (c :: t)).2 = 0 → P t → P (c :: t)) : ∀ (n : Nat) (l : List UInt8), l.length ≤ n → P l := by
  intro n
  induction n with
  | zero => intro l h; rw [List.length_eq_zero_iff.1 (by omega : l.length = 0)]; exact h0
  | succ n ih =>
    intro l h
    cases l with
    | nil => exact h0
    | cons c t =>
      obtain ⟨r, k, e⟩ : ∃ r k, nextN (c :: t) = (r, k) := ⟨_, _, rfl⟩
      by_cases hk : 0 < k
      · obtain ⟨hs, hkl, ht⟩ := nextN_some _ r k e hk
        have hd := List.take_append_drop k (c :: t)
        rw [ht] at hd
        rw [← hd]
        exact h1 r _ hs (ih _ (by simp at h ⊢; omega))
      · exact h2 c t (by rw [e]; simp only; omega) (ih t (by simpa using h))
theorem mapL_len (g : Nat → Int) (l : List UInt8) : (mapL g l).length ≤ 4 * l.length := by
  refine text_ind (P := fun l => (mapL g l).length ≤ 4 * l.length) (by simp [mapL_nil]) ?_ ?_ _ l (Nat.le_refl _)
  · intro r more hs ih
    rw [mapL_enc g r hs, List.length_append, List.length_append]
    have := putL_len (g r)
    have := encS_len r
    omega
  · intro c t hb ih
    rw [mapL_bad g _ (by simp) hb]
    simp
    omega

/-- A byte that can only stand behind a sign's first. -/
def isCont (c : UInt8) : Bool := decide (128 ≤ c.toNat ∧ c.toNat < 192)
def run (l : List UInt8) : List UInt8 := l.takeWhile isCont
theorem enc_form (r : Nat) (hs : isSign r) : ∃ c t, encS r = c :: t ∧ isCont c = false ∧ t.all isCont = true := by
  unfold isSign at hs
  unfold encS
  split
  · exact ⟨_, _, rfl, decide_eq_false (by rw [ofNat_toNat _ (by omega)]; omega), rfl⟩
  · split
    · refine ⟨_, _, rfl, decide_eq_false (by rw [ofNat_toNat _ (by omega)]; omega), ?_⟩
      simp only [List.all_cons, List.all_nil, Bool.and_true]
      exact decide_eq_true (by rw [ofNat_toNat _ (by omega)]; omega)
    · split
      · refine ⟨_, _, rfl, decide_eq_false (by rw [ofNat_toNat _ (by omega)]; omega), ?_⟩
        simp only [List.all_cons, List.all_nil, Bool.and_true, Bool.and_eq_true]
        exact ⟨decide_eq_true (by rw [ofNat_toNat _ (by omega)]; omega), decide_eq_true (by rw [ofNat_toNat _ (by omega)]; omega)⟩
      · refine ⟨_, _, rfl, decide_eq_false (by rw [ofNat_toNat _ (by omega)]; omega), ?_⟩
        simp only [List.all_cons, List.all_nil, Bool.and_true, Bool.and_eq_true]
        exact ⟨decide_eq_true (by rw [ofNat_toNat _ (by omega)]; omega), decide_eq_true (by rw [ofNat_toNat _ (by omega)]; omega), decide_eq_true (by rw [ofNat_toNat _ (by omega)]; omega)⟩
theorem run_enc (r : Nat) (hs : isSign r) (more : List UInt8) : run (encS r ++ more) = [] := by
  obtain ⟨c, t, e, h, _⟩ := enc_form r hs
  rw [e]
  unfold run
  simp [h]
/-- Where all of a beginning are such bytes, it is a beginning of the run. -/
theorem run_prefix (t : List UInt8) : ∀ l m : List UInt8, t.all isCont = true → t ++ m = l → ∃ m', t ++ m' = run l := by
  induction t with
  | nil => intro l m _ _; exact ⟨run l, rfl⟩
  | cons c t ih =>
    intro l m h e
    subst e
    simp only [List.all_cons, Bool.and_eq_true] at h
    obtain ⟨m', hm⟩ := ih (t ++ m) m h.2 rfl
    refine ⟨m', ?_⟩
    unfold run at hm ⊢
    simp [h.1, hm]
/-- A byte that begins no sign begins none as long as the run behind it is the same. -/
theorem bad_keep (c : UInt8) (t t' : List UInt8) (hb : (nextN (c :: t)).2 = 0) (hr : run t' = run t) : (nextN (c :: t')).2 = 0 := by
  obtain ⟨v, k, e⟩ : ∃ v k, nextN (c :: t') = (v, k) := ⟨_, _, rfl⟩
  rw [e]
  show k = 0
  by_cases hk : 0 < k
  · exfalso
    obtain ⟨hs, _, ht⟩ := nextN_some _ v k e hk
    obtain ⟨c1, t1, e1, _, hall⟩ := enc_form v hs
    have hd := List.take_append_drop k (c :: t')
    rw [ht, e1, List.cons_append] at hd
    injection hd with hc hd
    subst hc
    obtain ⟨m', hm'⟩ := run_prefix t1 t' _ hall hd
    rw [hr] at hm'
    have : encS v ++ (m' ++ t.dropWhile isCont) = c1 :: t := by
      rw [e1, List.cons_append, ← List.append_assoc, hm']
      unfold run
      rw [List.takeWhile_append_dropWhile]
    have h2 := nextN_enc v hs (m' ++ t.dropWhile isCont)
    rw [this] at h2
    rw [h2] at hb
    have := encS_len v
    simp only at hb
    omega
  · omega
theorem run_map (g : Nat → Int) (hg : ∀ r, isSign r → 0 ≤ g r ∧ isSign (g r).toNat) (l : List UInt8) : run (mapL g l) = run l := by
  refine text_ind (P := fun l => run (mapL g l) = run l) rfl ?_ ?_ _ l (Nat.le_refl _)
  · intro r more hs _
    rw [mapL_enc g r hs, run_enc r hs]
    unfold putL
    rw [if_pos (hg r hs)]
    exact run_enc _ (hg r hs).2 _
  · intro c t hb ih
    rw [mapL_bad g _ (by simp) hb]
    unfold run at ih ⊢
    simp only [List.take_succ_cons, List.take_zero, List.drop_succ_cons, List.drop_zero, List.cons_append, List.nil_append, List.takeWhile_cons]
    rw [ih]
theorem mapL_mapL (g g2 : Nat → Int) (hg : ∀ r, isSign r → 0 ≤ g r ∧ isSign (g r).toNat) (l : List UInt8) : mapL g2 (mapL g l) = mapL (fun r => g2 (g r).toNat) l := by
  refine text_ind (P := fun l => mapL g2 (mapL g l) = mapL (fun r => g2 (g r).toNat) l) rfl ?_ ?_ _ l (Nat.le_refl _)
  · intro r more hs ih
    rw [mapL_enc g r hs, mapL_enc _ r hs, ← ih]
    conv => lhs; unfold putL
    rw [if_pos (hg r hs), mapL_enc g2 _ (hg r hs).2]
  · intro c t hb ih
    have h1 : mapL g (c :: t) = c :: mapL g t := by rw [mapL_bad g _ (by simp) hb]; rfl
    have hb2 := bad_keep c t (mapL g t) hb (run_map g hg t)
    rw [h1, mapL_bad g2 _ (by simp) hb2, mapL_bad _ _ (by simp) hb]
    show c :: mapL g2 (mapL g t) = c :: _
    rw [ih]
    rfl
theorem mapL_congr (g g2 : Nat → Int) (h : ∀ r, isSign r → g r = g2 r) (l : List UInt8) : mapL g l = mapL g2 l := by
  refine text_ind (P := fun l => mapL g l = mapL g2 l) rfl ?_ ?_ _ l (Nat.le_refl _)
  · intro r more hs ih
    rw [mapL_enc g r hs, mapL_enc g2 r hs, ih, h r hs]
  · intro c t hb ih
    rw [mapL_bad g _ (by simp) hb, mapL_bad g2 _ (by simp) hb]
    show c :: mapL g t = c :: mapL g2 t
    rw [ih]
theorem mapL_id (l : List UInt8) : mapL (fun r => (r : Int)) l = l := by
  refine text_ind (P := fun l => mapL (fun r => (r : Int)) l = l) rfl ?_ ?_ _ l (Nat.le_refl _)
  · intro r more hs ih
    rw [mapL_enc _ r hs, ih, putL_sign r hs]
  · intro c t hb ih
    rw [mapL_bad _ _ (by simp) hb]
    show c :: mapL _ t = c :: t
    rw [ih]

/-- Low and Plain on signs. -/
def lowN (r : Nat) : Int := lowI (r : Int)
def plainN (r : Nat) : Int := plainI (r : Int)
theorem low_sign (r : Nat) (h : isSign r) : 0 ≤ lowN r ∧ isSign (lowN r).toNat := by
  unfold isSign at *
  unfold lowN lowI
  split <;> (try split) <;> (try split) <;> omega
theorem plain_sgn (r : Nat) (h : isSign r) : 0 ≤ plainN r ∧ isSign (plainN r).toNat := by
  unfold isSign at *
  unfold plainN
  rcases plain_cases (r : Int) with e | e <;> omega
theorem comm_facts : ∀ i : Fin 192, plainI (lowI ((i.val : Int) + 192)) = lowI (plainI ((i.val : Int) + 192)) := by decide +kernel
theorem plain_low (r : Int) : plainI (lowI r) = lowI (plainI r) := by
  by_cases h : 192 ≤ r ∧ r ≤ 383
  · have e : (((⟨(r - 192).toNat, by omega⟩ : Fin 192).val : Int) + 192) = r := by simp only; omega
    have f := comm_facts ⟨(r - 192).toNat, by omega⟩
    rw [e] at f
    exact f
  · rw [plainI_out r (by omega)]
    apply plainI_out
    unfold lowI
    split <;> (try split) <;> (try split) <;> omega
theorem toN (x : Int) (h : 0 ≤ x) : ((x.toNat : Nat) : Int) = x := by omega
theorem low_plain_same (l : List UInt8) : mapL plainN (mapL lowN l) = mapL lowN (mapL plainN l) := by
  rw [mapL_mapL _ _ low_sign, mapL_mapL _ _ plain_sgn]
  refine mapL_congr _ _ (fun r hs => ?_) l
  show plainI ((lowN r).toNat : Int) = lowI ((plainN r).toNat : Int)
  rw [toN _ (low_sign r hs).1, toN _ (plain_sgn r hs).1]
  exact plain_low _
theorem low_low (l : List UInt8) : mapL lowN (mapL lowN l) = mapL lowN l := by
  rw [mapL_mapL _ _ low_sign]
  refine mapL_congr _ _ (fun r hs => ?_) l
  show lowI ((lowN r).toNat : Int) = _
  rw [toN _ (low_sign r hs).1]
  exact lowI_twice _
theorem plain_plain (l : List UInt8) : mapL plainN (mapL plainN l) = mapL plainN l := by
  rw [mapL_mapL _ _ plain_sgn]
  refine mapL_congr _ _ (fun r hs => ?_) l
  show plainI ((plainN r).toNat : Int) = _
  rw [toN _ (plain_sgn r hs).1]
  exact plain_twice _
theorem twice_low (l : List UInt8) : mapL lowN (mapL plainN (mapL lowN l)) = mapL plainN (mapL lowN l) := by
  rw [low_plain_same, low_low]
theorem twice_plain (l : List UInt8) : mapL plainN (mapL plainN (mapL lowN l)) = mapL plainN (mapL lowN l) := plain_plain _
end Go.Proofs.YtjeccmmhmdgdgaaGreatDoor
