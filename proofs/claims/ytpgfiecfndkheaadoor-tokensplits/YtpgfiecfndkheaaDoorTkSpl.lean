/- The page's own split: what is plain in it. -/
import Derived.Test.YtpgfiecfndkheaaDoorTkWords
namespace Go.Proofs.YtpgfiecfndkheaaDoor
open Go.RowKit
set_option maxRecDepth 100000

/-- The law's look at a gap. -/
def scanB : Bool → Bool → Nat → B8 → Bool × Bool
  | st, tw, _, [] => (st, tw)
  | st, tw, ln, c :: t => if c = 46 ∨ c = 33 ∨ c = 63 then scanB true tw 0 t else if c = 10 then scanB st (tw || decide (1 < ln + 1)) (ln + 1) t else if c = 32 ∨ c = 9 ∨ c = 13 then scanB st tw ln t else scanB st tw 0 t
theorem scan_eq (t : B8) : ∀ st tw ln, scanB st tw ln t = (st || stopB t, tw || parB (decide (0 < ln)) t) := by
  induction t with
  | nil => intro st tw ln; simp [scanB, stopB, parB]
  | cons c t ih =>
    intro st tw ln
    have hs : stopB (c :: t) = ((c == 46 || c == 33 || c == 63) || stopB t) := rfl
    rw [hs]
    unfold scanB parB
    by_cases h1 : c = 46 ∨ c = 33 ∨ c = 63
    · have h10 : ¬ c = 10 := by rcases h1 with rfl | rfl | rfl <;> decide
      have hbl : ¬ (c = 32 ∨ c = 9 ∨ c = 13) := by rcases h1 with rfl | rfl | rfl <;> decide
      have hc : (c == 46 || c == 33 || c == 63) = true := by rcases h1 with rfl | rfl | rfl <;> decide
      rw [if_pos h1, if_neg h10, if_neg hbl, ih, hc]
      simp
    · have hc : (c == 46 || c == 33 || c == 63) = false := by
        simp only [Bool.or_eq_false_iff, beq_eq_false_iff_ne]
        exact ⟨⟨fun h => h1 (.inl h), fun h => h1 (.inr (.inl h))⟩, fun h => h1 (.inr (.inr h))⟩
      rw [if_neg h1, hc]
      by_cases h10 : c = 10
      · rw [if_pos h10, if_pos h10, ih]
        by_cases hl : 0 < ln
        · simp [hl]
        · obtain rfl : ln = 0 := by omega
          simp
      · rw [if_neg h10, if_neg h10]
        by_cases hbl : c = 32 ∨ c = 9 ∨ c = 13
        · rw [if_pos hbl, if_pos hbl, ih]; simp
        · rw [if_neg hbl, if_neg hbl, ih]; simp
theorem cutR_snoc (rs : List Nat) (r : Nat) : ∀ z, cutR (rs ++ [r]) z = if cutR rs z = rs ∧ z + (encW rs).length + (encS r).length ≤ 80 then rs ++ [r] else cutR rs z := by
  induction rs with
  | nil =>
    intro z
    show (if 80 < z + (encS r).length then [] else [r]) = if ([] : List Nat) = [] ∧ z + 0 + (encS r).length ≤ 80 then [r] else []
    by_cases h : 80 < z + (encS r).length
    · rw [if_pos h, if_neg (by omega)]
    · rw [if_neg h, if_pos ⟨rfl, by omega⟩]
  | cons x rs ih =>
    intro z
    show (if 80 < z + (encS x).length then [] else x :: cutR (rs ++ [r]) (z + (encS x).length)) = if (if 80 < z + (encS x).length then [] else x :: cutR rs (z + (encS x).length)) = x :: rs ∧ z + (encW (x :: rs)).length + (encS r).length ≤ 80 then x :: (rs ++ [r]) else (if 80 < z + (encS x).length then [] else x :: cutR rs (z + (encS x).length))
    by_cases h : 80 < z + (encS x).length
    · rw [if_pos h, if_pos h, if_neg (by simp)]
    · rw [if_neg h, if_neg h, ih]
      have he : (encW (x :: rs)).length = (encS x).length + (encW rs).length := by rw [encW_cons, List.length_append]
      rw [he]
      by_cases h2 : cutR rs (z + (encS x).length) = rs ∧ z + (encS x).length + (encW rs).length + (encS r).length ≤ 80
      · rw [if_pos h2, if_pos ⟨by rw [h2.1], by omega⟩]
      · rw [if_neg h2, if_neg (fun h3 => h2 ⟨by simpa using h3.1, by omega⟩)]
/-- How far the page's split has come: what is told, the gap and the word so far. -/
structure PS (l l' : B8) (E : List (B8 × List Nat)) (g : B8) (rs : List Nat) : Prop where
  ch : chL l = E ++ mach (unL l') g rs
  lts : Lts rs
  len : E.length + l'.length ≤ l.length + 1
  gl : g.length + l'.length ≤ l.length
theorem PS.init (l : B8) : PS l l [] [] [] := ⟨by rw [chL_eq]; rfl, fun r h => by simp at h, by simp, by simp⟩
def cutF (rs : List Nat) : Bool := decide (cutR rs 0 ≠ rs)
def wordR (rs : List Nat) : B8 := encW (cutR rs 0)
theorem wordR_nil (rs : List Nat) : wordR rs = [] ↔ rs = [] := by
  constructor
  · intro h
    cases rs with
    | nil => rfl
    | cons r t =>
      exfalso
      have h2 := encW_pos _ (cutR_ne (r :: t) (by simp))
      unfold wordR at h
      rw [h] at h2
      simp at h2
  · intro h; rw [h]; rfl
theorem word_step (rs : List Nat) (r : Nat) : (cutF rs = true ∨ 80 < (wordR rs).length + (encS r).length → wordR (rs ++ [r]) = wordR rs ∧ cutF (rs ++ [r]) = true) ∧ (¬ (cutF rs = true ∨ 80 < (wordR rs).length + (encS r).length) → wordR (rs ++ [r]) = wordR rs ++ encS r ∧ cutF (rs ++ [r]) = false) := by
  have h := cutR_snoc rs r 0
  rw [Nat.zero_add] at h
  have hlen : (cutR rs 0).length ≤ rs.length := by
    obtain ⟨m, hm⟩ := cutR_pre rs 0
    have := congrArg List.length hm
    rw [List.length_append] at this
    omega
  constructor
  · intro hc
    have hn : ¬ (cutR rs 0 = rs ∧ (encW rs).length + (encS r).length ≤ 80) := by
      rintro ⟨h1, h2⟩
      rcases hc with hc | hc
      · unfold cutF at hc; exact (of_decide_eq_true hc) h1
      · unfold wordR at hc; rw [h1] at hc; omega
    rw [if_neg hn] at h
    refine ⟨by unfold wordR; rw [h], ?_⟩
    unfold cutF
    rw [h]
    refine decide_eq_true (fun e => ?_)
    have := congrArg List.length e
    rw [List.length_append] at this
    simp at this
    omega
  · intro hc
    have h1 : cutR rs 0 = rs := by
      by_cases h1 : cutR rs 0 = rs
      · exact h1
      · exact absurd (.inl (by unfold cutF; exact decide_eq_true h1)) hc
    have h2 : (encW rs).length + (encS r).length ≤ 80 := by
      by_cases h2 : (encW rs).length + (encS r).length ≤ 80
      · exact h2
      · exact absurd (.inr (by unfold wordR; rw [h1]; omega)) hc
    rw [if_pos ⟨h1, h2⟩] at h
    refine ⟨?_, ?_⟩
    · unfold wordR; rw [h, h1, encW_app]; simp [encW]
    · unfold cutF; rw [h]; simp
theorem PS.letter {l l' : B8} {E : List (B8 × List Nat)} {g : B8} {rs : List Nat} (h : PS l l' E g rs) (hL : isL l' = true) : PS l (l'.drop (adv l')) E g (rs ++ [(nextN l').1]) := by
  obtain ⟨s1, s2, s3⟩ := isL_sign l' hL
  have hl : l' ≠ [] := by intro e; rw [e, isL_nil] at hL; cases hL
  have h1 := adv_ge l'
  refine ⟨?_, ?_, ?_, by have := h.gl; rw [List.length_drop]; omega⟩
  · rw [h.ch, unL_step l' hl, hL]; rfl
  · intro r hr
    rcases List.mem_append.1 hr with hr | hr
    · exact h.lts r hr
    · rw [List.mem_singleton.1 hr]; exact ⟨s1, hL⟩
  · have := h.len; rw [List.length_drop]; omega
/-- What 'done' does to what is told. -/
def emitE (E : List (B8 × List Nat)) (g : B8) (rs : List Nat) : List (B8 × List Nat) := if rs = [] then E else E ++ [(g, rs)]
theorem PS.non {l l' : B8} {E : List (B8 × List Nat)} {g : B8} {rs : List Nat} (h : PS l l' E g rs) (hl : l' ≠ []) (hL : isL l' = false) : PS l (l'.drop (adv l')) (emitE E g rs) ((if rs = [] then g else []) ++ l'.take (adv l')) [] := by
  have h1 := adv_ge l'
  have h2 := adv_le l' hl
  refine ⟨?_, fun r hr => by simp at hr, ?_, ?_⟩
  · rw [h.ch, unL_step l' hl, hL]
    show E ++ (if rs = [] then _ else _) = _
    unfold emitE
    by_cases hr : rs = []
    · rw [if_pos hr, if_pos hr, if_pos hr]
    · rw [if_neg hr, if_neg hr, if_neg hr, List.append_assoc]; rfl
  · have := h.len
    unfold emitE
    rw [List.length_drop]
    split
    · omega
    · rw [List.length_append]; simp; omega
  · have := h.gl
    rw [List.length_append, List.length_take, List.length_drop]
    split
    · omega
    · simp; omega
theorem PS.fin {l : B8} {E : List (B8 × List Nat)} {g : B8} {rs : List Nat} (h : PS l [] E g rs) : chL l = emitE E g rs := by
  rw [h.ch]
  show E ++ (if rs = [] then _ else _) = _
  unfold emitE
  by_cases hr : rs = []
  · rw [if_pos hr, if_pos hr]; simp
  · rw [if_neg hr, if_neg hr]
theorem emit_w (E : List (B8 × List Nat)) (g : B8) (rs : List Nat) (h : rs ≠ []) : wordsOf (emitE E g rs) = wordsOf E ++ [wordR rs] ∧ sentF 0 (emitE E g rs) = sentF 0 E ++ (if 0 < E.length ∧ (parB false g = true ∨ stopB g = true) then [E.length] else []) ∧ parsF 0 (emitE E g rs) = parsF 0 E ++ (if 0 < E.length ∧ parB false g = true then [E.length] else []) := by
  unfold emitE
  rw [if_neg h]
  refine ⟨?_, ?_, ?_⟩
  · unfold wordsOf; rw [List.map_append]; rfl
  · rw [sentF_app, Nat.zero_add]
    show _ ++ (_ ++ []) = _
    rw [List.append_nil]
  · rw [parsF_app, Nat.zero_add]
    show _ ++ (_ ++ []) = _
    rw [List.append_nil]
end Go.Proofs.YtpgfiecfndkheaaDoor
