/- token.Split as plain functions over bytes. -/
import Derived.Test.YtpgfiecfndkheaaDoorSg
import Derived.Test.YtpgfiecfndkheaaDoorMapSpec
import Derived.Test.YtpgfiecfndkheaaDoorPlainSpec
namespace Go.Proofs.YtpgfiecfndkheaaDoor
set_option maxRecDepth 100000

abbrev B8 := List UInt8
/-- Does a text begin with a letter; how many bytes its first sign has, or 1. -/
def isL (l : B8) : Bool := letterB ((nextN l).1 : Int)
def adv (l : B8) : Nat := max 1 (nextN l).2
theorem nextN_le (l : B8) : (nextN l).2 ≤ l.length := by
  obtain ⟨r, k, h⟩ : ∃ r k, nextN l = (r, k) := ⟨_, _, rfl⟩
  rw [h]
  by_cases hk : 0 < k
  · exact (nextN_some l r k h hk).2.1
  · show k ≤ _; omega
theorem adv_ge (l : B8) : 1 ≤ adv l := by unfold adv; omega
theorem adv_le (l : B8) (hl : l ≠ []) : adv l ≤ l.length := by
  have h1 := nextN_le l
  have h2 := List.length_pos_iff.2 hl
  unfold adv; omega
theorem letter0 : letterB ((0 : Nat) : Int) = false := by decide
theorem isL_sign (l : B8) (h : isL l = true) : isSign (nextN l).1 ∧ l = encS (nextN l).1 ++ l.drop (adv l) ∧ adv l = (encS (nextN l).1).length := by
  obtain ⟨r, k, hn⟩ : ∃ r k, nextN l = (r, k) := ⟨_, _, rfl⟩
  unfold isL adv at *
  rw [hn] at h ⊢
  simp only at h ⊢
  by_cases hk : 0 < k
  · obtain ⟨h1, h2, h3⟩ := nextN_some l r k hn hk
    have h4 : max 1 k = k := by omega
    have h5 : k = (encS r).length := by rw [← h3, List.length_take]; omega
    rw [h4]
    refine ⟨h1, ?_, h5⟩
    rw [← h3]
    exact (List.take_append_drop k l).symm
  · obtain ⟨rfl, _⟩ := nextN_zero l r k hn (by omega)
    rw [letter0] at h
    cases h
theorem isL_enc (r : Nat) (hs : isSign r) (m : B8) : isL (encS r ++ m) = letterB (r : Int) ∧ adv (encS r ++ m) = (encS r).length := by
  unfold isL adv
  rw [nextN_enc r hs m]
  have := (encS_len r).1
  exact ⟨rfl, by show max 1 (encS r).length = _; omega⟩
theorem enc_ne (r : Nat) (m : B8) : encS r ++ m ≠ [] := by
  intro h
  have := (encS_len r).1
  have h2 := congrArg List.length h
  rw [List.length_append] at h2
  simp only [List.length_nil] at h2
  omega
/-- How many bytes at the beginning belong to words, or to none. -/
def runN : Nat → B8 → Bool → Nat
  | 0, _, _ => 0
  | f + 1, l, b => if l = [] then 0 else if isL l = b then adv l + runN f (l.drop (adv l)) b else 0
def runL (l : B8) (b : Bool) : Nat := runN l.length l b
theorem runN_fuel (b : Bool) (n : Nat) : ∀ (m : Nat) (l : B8), l.length ≤ n → l.length ≤ m → runN n l b = runN m l b := by
  induction n with
  | zero =>
    intro m l h _
    obtain rfl := List.eq_nil_of_length_eq_zero (Nat.le_zero.1 h)
    cases m <;> simp [runN]
  | succ n ih =>
    intro m l h h2
    cases m with
    | zero =>
      obtain rfl := List.eq_nil_of_length_eq_zero (Nat.le_zero.1 h2)
      simp [runN]
    | succ m =>
      unfold runN
      by_cases hl : l = []
      · rw [if_pos hl, if_pos hl]
      · have h3 := adv_ge l
        have h4 := List.length_pos_iff.2 hl
        rw [if_neg hl, if_neg hl, ih m (l.drop (adv l)) (by rw [List.length_drop]; omega) (by rw [List.length_drop]; omega)]
theorem runL_nil (b : Bool) : runL [] b = 0 := rfl
theorem runL_stop (l : B8) (b : Bool) (h : isL l ≠ b) : runL l b = 0 := by
  unfold runL
  cases l with
  | nil => rfl
  | cons c t =>
    show runN (t.length + 1) _ _ = 0
    unfold runN
    rw [if_neg (by simp), if_neg h]
theorem runL_step (l : B8) (b : Bool) (hl : l ≠ []) (h : isL l = b) : runL l b = adv l + runL (l.drop (adv l)) b := by
  unfold runL
  cases l with
  | nil => exact absurd rfl hl
  | cons c t =>
    have h3 := adv_ge (c :: t)
    rw [show runN (c :: t).length (c :: t) b = adv (c :: t) + runN t.length ((c :: t).drop (adv (c :: t))) b by
      show runN (t.length + 1) _ _ = _
      rw [runN, if_neg (by simp), if_pos h]]
    rw [runN_fuel b t.length _ _ (by rw [List.length_drop, List.length_cons]; omega) (Nat.le_refl _)]
theorem runL_le (b : Bool) : ∀ (n : Nat) (l : B8), l.length ≤ n → runL l b ≤ l.length := by
  intro n
  induction n with
  | zero => intro l h; obtain rfl := List.eq_nil_of_length_eq_zero (Nat.le_zero.1 h); exact Nat.le_refl _
  | succ n ih =>
    intro l h
    by_cases hl : l = []
    · subst hl; exact Nat.le_refl _
    by_cases hb : isL l = b
    · have h1 := adv_ge l
      have h2 := adv_le l hl
      have h3 := ih (l.drop (adv l)) (by rw [List.length_drop]; omega)
      rw [List.length_drop] at h3
      rw [runL_step l b hl hb]
      omega
    · rw [runL_stop l b hb]; omega
theorem runL_len (l : B8) (b : Bool) : runL l b ≤ l.length := runL_le b _ l (Nat.le_refl _)
/-- Signs as bytes. -/
def encW (rs : List Nat) : B8 := rs.flatMap encS
theorem encW_cons (r : Nat) (rs : List Nat) : encW (r :: rs) = encS r ++ encW rs := rfl
theorem encW_app (a b : List Nat) : encW (a ++ b) = encW a ++ encW b := by unfold encW; rw [List.flatMap_append]
/-- The letters with which a text begins. -/
def letN : Nat → B8 → List Nat
  | 0, _ => []
  | f + 1, l => if isL l then (nextN l).1 :: letN f (l.drop (adv l)) else []
def letL (l : B8) : List Nat := letN l.length l
def Lts (rs : List Nat) : Prop := ∀ r ∈ rs, isSign r ∧ letterB (r : Int) = true
theorem isL_nil : isL [] = false := by decide
theorem letN_spec (n : Nat) : ∀ l : B8, l.length ≤ n → Lts (letN n l) ∧ l = encW (letN n l) ++ l.drop (encW (letN n l)).length ∧ runL l true = (encW (letN n l)).length ∧ isL (l.drop (encW (letN n l)).length) = false := by
  induction n with
  | zero =>
    intro l h
    obtain rfl := List.eq_nil_of_length_eq_zero (Nat.le_zero.1 h)
    exact ⟨fun r h => by simp [letN] at h, rfl, rfl, isL_nil⟩
  | succ n ih =>
    intro l h
    unfold letN
    by_cases hb : isL l = true
    · obtain ⟨h1, h2, h3⟩ := isL_sign l hb
      have hl : l ≠ [] := by intro h; rw [h, isL_nil] at hb; cases hb
      have h4 := adv_ge l
      obtain ⟨i1, i2, i3, i4⟩ := ih (l.drop (adv l)) (by rw [List.length_drop]; omega)
      rw [if_pos hb, encW_cons, List.length_append, ← h3, ← List.drop_drop]
      refine ⟨?_, ?_, ?_, i4⟩
      · intro r hr
        rcases List.mem_cons.1 hr with rfl | hr
        · exact ⟨h1, hb⟩
        · exact i1 r hr
      · conv => lhs; rw [h2, i2]
        rw [List.append_assoc]
      · rw [runL_step l true hl hb, i3]
    · rw [if_neg hb]
      refine ⟨fun r h => by simp at h, rfl, runL_stop l true hb, ?_⟩
      simpa [encW] using hb
theorem letL_spec (l : B8) : Lts (letL l) ∧ l = encW (letL l) ++ l.drop (encW (letL l)).length ∧ runL l true = (encW (letL l)).length ∧ isL (l.drop (encW (letL l)).length) = false := letN_spec _ l (Nat.le_refl _)
theorem letN_enc (rs : List Nat) (h : Lts rs) (m : B8) (hm : isL m = false) : ∀ n, (encW rs ++ m).length ≤ n → letN n (encW rs ++ m) = rs := by
  induction rs with
  | nil =>
    intro n hn
    cases n with
    | zero => rfl
    | succ n => unfold letN; rw [show encW [] ++ m = m from rfl, if_neg (by rw [hm]; simp)]
  | cons r rs ih =>
    intro n hn
    have hr := h r (by simp)
    rw [encW_cons, List.append_assoc] at hn ⊢
    obtain ⟨e1, e2⟩ := isL_enc r hr.1 (encW rs ++ m)
    have hlen := (encS_len r).1
    cases n with
    | zero => rw [List.length_append] at hn; omega
    | succ n =>
      unfold letN
      rw [if_pos (by rw [e1]; exact hr.2), e2, nextN_enc r hr.1, List.drop_left, ih (fun x hx => h x (by simp [hx])) n (by rw [List.length_append] at hn; omega)]
theorem letL_enc (rs : List Nat) (h : Lts rs) (m : B8) (hm : isL m = false) : letL (encW rs ++ m) = rs := letN_enc rs h m hm _ (Nat.le_refl _)
/-- As many of a word's first signs as fit. -/
def cutR : List Nat → Nat → List Nat
  | [], _ => []
  | r :: rs, z => if 80 < z + (encS r).length then [] else r :: cutR rs (z + (encS r).length)
/-- Two newlines with but blanks between them. -/
def parB : Bool → B8 → Bool
  | _, [] => false
  | nl, c :: t => if c = 10 then (if nl then true else parB true t) else if c = 32 ∨ c = 9 ∨ c = 13 then parB nl t else parB false t
def stopB (l : B8) : Bool := l.any fun c => c == 46 || c == 33 || c == 63
/-- A text as gaps with words behind them. -/
def chN : Nat → B8 → List (B8 × List Nat)
  | 0, _ => []
  | f + 1, l => if letL (l.drop (runL l false)) = [] then [] else (l.take (runL l false), letL (l.drop (runL l false))) :: chN f (l.drop (runL l false + (encW (letL (l.drop (runL l false)))).length))
def chL (l : B8) : List (B8 × List Nat) := chN l.length l
def wordOf (c : B8 × List Nat) : B8 := encW (cutR c.2 0)
def wordsOf (cs : List (B8 × List Nat)) : List B8 := cs.map wordOf
def parsF : Nat → List (B8 × List Nat) → List Nat
  | _, [] => []
  | k, c :: cs => (if 0 < k ∧ parB false c.1 = true then [k] else []) ++ parsF (k + 1) cs
def sentF : Nat → List (B8 × List Nat) → List Nat
  | _, [] => []
  | k, c :: cs => (if 0 < k ∧ (parB false c.1 = true ∨ stopB c.1 = true) then [k] else []) ++ sentF (k + 1) cs
theorem encW_pos (rs : List Nat) (h : rs ≠ []) : 0 < (encW rs).length := by
  cases rs with
  | nil => exact absurd rfl h
  | cons r rs => rw [encW_cons, List.length_append]; have := (encS_len r).1; omega
theorem chN_fuel (n : Nat) : ∀ (m : Nat) (l : B8), l.length ≤ n → l.length ≤ m → chN n l = chN m l := by
  have h0 : letL [] = [] := rfl
  induction n with
  | zero =>
    intro m l h _
    obtain rfl := List.eq_nil_of_length_eq_zero (Nat.le_zero.1 h)
    cases m with
    | zero => rfl
    | succ m => unfold chN; rw [List.drop_nil, if_pos h0]
  | succ n ih =>
    intro m l h h2
    cases m with
    | zero =>
      obtain rfl := List.eq_nil_of_length_eq_zero (Nat.le_zero.1 h2)
      unfold chN; rw [List.drop_nil, if_pos h0]
    | succ m =>
      unfold chN
      by_cases hl : letL (l.drop (runL l false)) = []
      · rw [if_pos hl, if_pos hl]
      · have h3 := encW_pos _ hl
        rw [if_neg hl, if_neg hl, ih m _ (by rw [List.length_drop]; omega) (by rw [List.length_drop]; omega)]
theorem chL_end (l : B8) (h : letL (l.drop (runL l false)) = []) : chL l = [] := by
  unfold chL
  cases hl : l.length with
  | zero => rfl
  | succ n => unfold chN; rw [if_pos h]
theorem chL_step (l : B8) (h : letL (l.drop (runL l false)) ≠ []) : chL l = (l.take (runL l false), letL (l.drop (runL l false))) :: chL (l.drop (runL l false + (encW (letL (l.drop (runL l false)))).length)) := by
  unfold chL
  have h3 := encW_pos _ h
  cases hl : l.length with
  | zero =>
    obtain rfl := List.eq_nil_of_length_eq_zero hl
    exact absurd rfl h
  | succ n =>
    rw [chN, if_neg h, chN_fuel n _ _ (by rw [List.length_drop]; omega) (Nat.le_refl _)]
end Go.Proofs.YtpgfiecfndkheaaDoor
