/- A text sign by sign: the words and gaps that come of it. -/
import Derived.Test.YtpgfiecfndkheaaDoorTkSpec
namespace Go.Proofs.YtpgfiecfndkheaaDoor
set_option maxRecDepth 100000

/-- A letter, or bytes that are none. -/
inductive U where
  | l (r : Nat)
  | n (bs : B8)
def unN : Nat → B8 → List U
  | 0, _ => []
  | f + 1, l => if l = [] then [] else (if isL l then U.l (nextN l).1 else U.n (l.take (adv l))) :: unN f (l.drop (adv l))
def unL (l : B8) : List U := unN l.length l
theorem unN_fuel (n : Nat) : ∀ (m : Nat) (l : B8), l.length ≤ n → l.length ≤ m → unN n l = unN m l := by
  induction n with
  | zero =>
    intro m l h _
    obtain rfl := List.eq_nil_of_length_eq_zero (Nat.le_zero.1 h)
    cases m <;> simp [unN]
  | succ n ih =>
    intro m l h h2
    cases m with
    | zero =>
      obtain rfl := List.eq_nil_of_length_eq_zero (Nat.le_zero.1 h2)
      simp [unN]
    | succ m =>
      unfold unN
      by_cases hl : l = []
      · rw [if_pos hl, if_pos hl]
      · have h3 := adv_ge l
        have h4 := List.length_pos_iff.2 hl
        rw [if_neg hl, if_neg hl, ih m (l.drop (adv l)) (by rw [List.length_drop]; omega) (by rw [List.length_drop]; omega)]
theorem unL_nil : unL [] = [] := rfl
theorem unL_step (l : B8) (hl : l ≠ []) : unL l = (if isL l then U.l (nextN l).1 else U.n (l.take (adv l))) :: unL (l.drop (adv l)) := by
  unfold unL
  cases l with
  | nil => exact absurd rfl hl
  | cons c t =>
    have h3 := adv_ge (c :: t)
    rw [show unN (c :: t).length (c :: t) = (if isL (c :: t) then U.l (nextN (c :: t)).1 else U.n ((c :: t).take (adv (c :: t)))) :: unN t.length ((c :: t).drop (adv (c :: t))) by
      show unN (t.length + 1) _ = _
      rw [unN, if_neg (by simp)]]
    rw [unN_fuel t.length _ _ (by rw [List.length_drop, List.length_cons]; omega) (Nat.le_refl _)]
theorem unL_letter (r : Nat) (hs : isSign r) (hr : letterB (r : Int) = true) (m : B8) : unL (encS r ++ m) = U.l r :: unL m := by
  obtain ⟨e1, e2⟩ := isL_enc r hs m
  rw [unL_step _ (enc_ne r m), e1, e2, if_pos hr, nextN_enc r hs, List.drop_left]
theorem unL_letters (rs : List Nat) (h : Lts rs) (m : B8) : unL (encW rs ++ m) = rs.map U.l ++ unL m := by
  induction rs with
  | nil => rfl
  | cons r rs ih =>
    have hr := h r (by simp)
    rw [encW_cons, List.append_assoc, unL_letter r hr.1 hr.2, ih (fun x hx => h x (by simp [hx]))]
    rfl
theorem enc_asc (c : UInt8) (h : c.toNat < 128) : encS c.toNat = [c] ∧ isSign c.toNat := by
  constructor
  · unfold encS
    rw [if_pos h]
    simp
  · unfold isSign; omega
theorem unL_asc (c : UInt8) (h : c.toNat < 128) (hn : letterB (c.toNat : Int) = false) (m : B8) : unL (c :: m) = U.n [c] :: unL m := by
  obtain ⟨e, hs⟩ := enc_asc c h
  obtain ⟨e1, e2⟩ := isL_enc c.toNat hs m
  rw [e] at e1 e2
  have e1 : isL (c :: m) = letterB (c.toNat : Int) := e1
  have e2 : adv (c :: m) = 1 := e2
  rw [unL_step _ (by simp), e1, e2, hn]
  rfl
/-- Behind a text an ASCII sign changes nothing of what it begins with. -/
theorem next_stop (l : B8) (hl : l ≠ []) (c : UInt8) (hc : c.toNat < 128) (t : B8) : nextN (l ++ c :: t) = nextN l := by
  obtain ⟨r, k, h⟩ : ∃ r k, nextN l = (r, k) := ⟨_, _, rfl⟩
  rw [h]
  by_cases hk : 0 < k
  · obtain ⟨h1, h2, h3⟩ := nextN_some l r k h hk
    have hlen : (encS r).length = k := by rw [← h3, List.length_take]; omega
    have e : l ++ c :: t = encS r ++ (l.drop k ++ c :: t) := by
      rw [← List.append_assoc, ← h3, List.take_append_drop]
    rw [e, nextN_enc r h1, hlen]
  · obtain rfl : k = 0 := by omega
    obtain ⟨rfl, _⟩ := nextN_zero l r 0 h rfl
    obtain ⟨r', k', h'⟩ : ∃ r' k', nextN (l ++ c :: t) = (r', k') := ⟨_, _, rfl⟩
    rw [h']
    by_cases hk' : 0 < k'
    · exfalso
      obtain ⟨h1, h2, h3⟩ := nextN_some _ r' k' h' hk'
      rcases Nat.lt_or_ge l.length k' with h4 | h4
      · obtain ⟨c0, t0, he, _, hall⟩ := enc_form r' h1
        rw [he] at h3
        have h5 : ((l ++ c :: t).take k')[l.length]? = some c := by
          rw [List.getElem?_take_of_lt h4, List.getElem?_append_right (Nat.le_refl _)]
          simp
        rw [h3] at h5
        have hlp := List.length_pos_iff.2 hl
        obtain ⟨j, hj⟩ : ∃ j, l.length = j + 1 := ⟨l.length - 1, by omega⟩
        rw [hj, List.getElem?_cons_succ] at h5
        have := List.all_eq_true.1 hall c (List.mem_of_getElem? h5)
        unfold isCont at this
        have := of_decide_eq_true this
        omega
      · refine nextN_none l 0 h r' k' h1 ?_
        rw [← h3, List.take_append_of_le_length h4]
    · obtain rfl : k' = 0 := by omega
      obtain ⟨rfl, _⟩ := nextN_zero _ r' 0 h' rfl
      rfl
theorem unL_app (n : Nat) : ∀ (l : B8), l.length ≤ n → ∀ (c : UInt8), c.toNat < 128 → ∀ (t : B8), unL (l ++ c :: t) = unL l ++ unL (c :: t) := by
  induction n with
  | zero =>
    intro l h c _ t
    obtain rfl := List.eq_nil_of_length_eq_zero (Nat.le_zero.1 h)
    rfl
  | succ n ih =>
    intro l h c hc t
    by_cases hl : l = []
    · subst hl; rfl
    · have h1 := next_stop l hl c hc t
      have h2 : isL (l ++ c :: t) = isL l := by unfold isL; rw [h1]
      have h3 : adv (l ++ c :: t) = adv l := by unfold adv; rw [h1]
      have h4 := adv_le l hl
      have h5 := adv_ge l
      rw [unL_step l hl, unL_step (l ++ c :: t) (by simp), h1, h2, h3, List.drop_append_of_le_length h4, List.take_append_of_le_length h4, ih _ (by rw [List.length_drop]; omega) c hc t]
      rfl
/-- The chunks, sign by sign: the gap and the word so far. -/
def mach : List U → B8 → List Nat → List (B8 × List Nat)
  | [], g, w => if w = [] then [] else [(g, w)]
  | .l r :: us, g, w => mach us g (w ++ [r])
  | .n bs :: us, g, w => if w = [] then mach us (g ++ bs) [] else (g, w) :: mach us bs []
theorem mach_letters (rs : List Nat) : ∀ (us : List U) (g : B8) (w : List Nat), mach (rs.map U.l ++ us) g w = mach us g (w ++ rs) := by
  induction rs with
  | nil => intro us g w; simp
  | cons r rs ih =>
    intro us g w
    show mach (rs.map U.l ++ us) g (w ++ [r]) = _
    rw [ih, List.append_assoc]
    rfl
theorem mach_gap (n : Nat) : ∀ (l : B8), l.length ≤ n → ∀ g, mach (unL l) g [] = mach (unL (l.drop (runL l false))) (g ++ l.take (runL l false)) [] := by
  induction n with
  | zero =>
    intro l h g
    obtain rfl := List.eq_nil_of_length_eq_zero (Nat.le_zero.1 h)
    simp [runL_nil]
  | succ n ih =>
    intro l h g
    by_cases hl : l = []
    · subst hl; simp [runL_nil]
    by_cases hb : isL l = false
    · have h1 := adv_ge l
      have h2 := adv_le l hl
      rw [runL_step l false hl hb, unL_step l hl, hb]
      show mach (unL (l.drop (adv l))) (g ++ l.take (adv l)) [] = _
      rw [ih (l.drop (adv l)) (by rw [List.length_drop]; omega), List.drop_drop, List.append_assoc, List.take_add]
    · rw [runL_stop l false hb]; simp
theorem mach_emit (l : B8) (h : isL l = false) (g : B8) (w : List Nat) (hw : w ≠ []) : mach (unL l) g w = (g, w) :: mach (unL l) [] [] := by
  by_cases hl : l = []
  · subst hl
    show (if w = [] then [] else [(g, w)]) = _
    rw [if_neg hw]
    rfl
  · rw [unL_step l hl, h]
    show (if w = [] then _ else _) = (g, w) :: mach _ ([] ++ _) []
    rw [if_neg hw]
    rfl
theorem run_end (n : Nat) : ∀ (l : B8), l.length ≤ n → isL (l.drop (runL l false)) = false → l.drop (runL l false) = [] := by
  induction n with
  | zero =>
    intro l h _
    obtain rfl := List.eq_nil_of_length_eq_zero (Nat.le_zero.1 h)
    rfl
  | succ n ih =>
    intro l h hf
    by_cases hl : l = []
    · subst hl; rfl
    by_cases hb : isL l = false
    · have h1 := adv_ge l
      have h2 := adv_le l hl
      rw [runL_step l false hl hb, ← List.drop_drop] at hf ⊢
      exact ih _ (by rw [List.length_drop]; omega) hf
    · rw [runL_stop l false hb] at hf
      exact absurd (by simpa using hf) hb
theorem chL_mach (n : Nat) : ∀ (l : B8), l.length ≤ n → chL l = mach (unL l) [] [] := by
  induction n with
  | zero =>
    intro l h
    obtain rfl := List.eq_nil_of_length_eq_zero (Nat.le_zero.1 h)
    rfl
  | succ n ih =>
    intro l h
    rw [mach_gap _ l (Nat.le_refl _) [], List.nil_append]
    obtain ⟨s1, s2, s3, s4⟩ := letL_spec (l.drop (runL l false))
    by_cases hl : letL (l.drop (runL l false)) = []
    · rw [chL_end l hl]
      rw [hl] at s2 s4
      have s4 : isL (l.drop (runL l false)) = false := by simpa [encW] using s4
      -- nothing is left
      have hnil : l.drop (runL l false) = [] := by
        refine run_end _ l (Nat.le_refl _) s4
      rw [hnil]
      rfl
    · rw [chL_step l hl]
      have hp := encW_pos _ hl
      conv => rhs; rw [s2]
      rw [unL_letters _ s1, mach_letters, List.nil_append, mach_emit _ s4 _ _ hl, List.drop_drop, ih _ (by rw [List.length_drop]; omega)]
theorem chL_eq (l : B8) : chL l = mach (unL l) [] [] := chL_mach _ l (Nat.le_refl _)
/-- Bytes more ahead of the first word. -/
def prep (p : B8) : List (B8 × List Nat) → List (B8 × List Nat)
  | [] => []
  | c :: cs => (p ++ c.1, c.2) :: cs
theorem mach_prep (p : B8) (us : List U) : ∀ (g : B8) (w : List Nat), mach us (p ++ g) w = prep p (mach us g w) := by
  induction us with
  | nil => intro g w; show (if w = [] then _ else _) = prep p (if w = [] then _ else _); by_cases h : w = [] <;> simp [h, prep]
  | cons u us ih =>
    intro g w
    cases u with
    | l r => exact ih g _
    | n bs =>
      show (if w = [] then _ else _) = prep p (if w = [] then _ else _)
      by_cases h : w = []
      · rw [if_pos h, if_pos h, List.append_assoc, ih]
      · rw [if_neg h, if_neg h]; rfl
/-- A gap of ASCII signs between two texts. -/
theorem mach_app (us vs : List U) (c : UInt8) : ∀ (g : B8) (w : List Nat), ∃ p, mach (us ++ U.n [c] :: vs) g w = mach us g w ++ mach vs (p ++ [c]) [] := by
  induction us with
  | nil =>
    intro g w
    show ∃ p, (if w = [] then _ else _) = (if w = [] then _ else _) ++ _
    by_cases h : w = []
    · exact ⟨g, by rw [if_pos h, if_pos h]; rfl⟩
    · exact ⟨[], by rw [if_neg h, if_neg h]; rfl⟩
  | cons u us ih =>
    intro g w
    cases u with
    | l r => exact ih g _
    | n bs =>
      show ∃ p, (if w = [] then _ else _) = (if w = [] then _ else _) ++ _
      by_cases h : w = []
      · rw [if_pos h, if_pos h]; exact ih _ _
      · rw [if_neg h, if_neg h]
        obtain ⟨p, hp⟩ := ih bs []
        exact ⟨p, by show (g, w) :: mach (us ++ U.n [c] :: vs) bs [] = _; rw [hp]; rfl⟩
theorem mach_non (cs : B8) : ∀ (vs : List U) (g : B8), mach ((cs.map fun c => U.n [c]) ++ vs) g [] = mach vs (g ++ cs) [] := by
  induction cs with
  | nil => intro vs g; simp
  | cons c cs ih =>
    intro vs g
    show mach ((cs.map fun c => U.n [c]) ++ vs) (g ++ [c]) [] = _
    rw [ih, List.append_assoc]
    rfl
def plainGap (g : B8) : Prop := ∀ c ∈ g, c.toNat < 128 ∧ letterB (c.toNat : Int) = false
theorem unL_gap (g : B8) (h : plainGap g) (t : B8) : unL (g ++ t) = (g.map fun c => U.n [c]) ++ unL t := by
  induction g with
  | nil => rfl
  | cons c g ih =>
    have hc := h c (by simp)
    rw [List.cons_append, unL_asc c hc.1 hc.2, ih (fun x hx => h x (by simp [hx]))]
    rfl
/-- Two texts with such a gap between them. -/
theorem chL_join (a b g : B8) (hg : plainGap g) (hne : g ≠ []) : ∃ p, chL (a ++ (g ++ b)) = chL a ++ prep (p ++ g) (chL b) := by
  cases g with
  | nil => exact absurd rfl hne
  | cons c g =>
    have hc := hg c (by simp)
    rw [chL_eq, chL_eq a, chL_eq b, List.cons_append, unL_app _ a (Nat.le_refl _) c hc.1, unL_asc c hc.1 hc.2]
    obtain ⟨p, hp⟩ := mach_app (unL a) (unL (g ++ b)) c [] []
    refine ⟨p, ?_⟩
    rw [hp, unL_gap g (fun x hx => hg x (by simp [hx])), mach_non, List.append_assoc]
    have := mach_prep (p ++ ([c] ++ g)) (unL b) [] []
    rw [List.append_nil] at this
    rw [this]
    rfl
end Go.Proofs.YtpgfiecfndkheaaDoor
