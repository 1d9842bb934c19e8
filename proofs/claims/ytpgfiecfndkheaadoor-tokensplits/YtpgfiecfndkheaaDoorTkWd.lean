/- What joins words again; what lies between two texts. -/
import Derived.Test.YtpgfiecfndkheaaDoorTkMach
import Derived.Test.YtpgfiecfndkheaaDoorTkW1
namespace Go.Proofs.YtpgfiecfndkheaaDoor
set_option maxRecDepth 100000

theorem ch_ok (n : Nat) : ∀ (l : B8), l.length ≤ n → ∀ c ∈ chL l, Lts c.2 ∧ c.2 ≠ [] := by
  induction n with
  | zero =>
    intro l h c hc
    obtain rfl := List.eq_nil_of_length_eq_zero (Nat.le_zero.1 h)
    simp [chL, chN] at hc
  | succ n ih =>
    intro l h c hc
    by_cases hl : letL (l.drop (runL l false)) = []
    · rw [chL_end l hl] at hc; simp at hc
    · rw [chL_step l hl] at hc
      have hp := encW_pos _ hl
      rcases List.mem_cons.1 hc with rfl | hc
      · exact ⟨(letL_spec _).1, hl⟩
      · exact ih _ (by rw [List.length_drop]; omega) c hc
theorem cutR_idem (rs : List Nat) : ∀ z, cutR (cutR rs z) z = cutR rs z := by
  induction rs with
  | nil => intro z; rfl
  | cons r rs ih =>
    intro z
    by_cases h : 80 < z + (encS r).length
    · rw [show cutR (r :: rs) z = [] by unfold cutR; rw [if_pos h]]; rfl
    · rw [show cutR (r :: rs) z = r :: cutR rs (z + (encS r).length) by conv => lhs; unfold cutR; rw [if_neg h]]
      conv => lhs; unfold cutR; rw [if_neg h]
      rw [ih]
theorem cutR_lts (rs : List Nat) (h : Lts rs) : Lts (cutR rs 0) := by
  obtain ⟨m, hm⟩ := cutR_pre rs 0
  intro r hr
  exact h r (by rw [hm]; exact List.mem_append_left _ hr)
theorem cutR_ne (rs : List Nat) (h : rs ≠ []) : cutR rs 0 ≠ [] := by
  cases rs with
  | nil => exact absurd rfl h
  | cons r rs =>
    have := (encS_len r).2
    unfold cutR
    rw [if_neg (by omega)]
    simp
/-- Words, each with a space behind it. -/
def jn (css : List (List Nat)) : B8 := css.flatMap fun cs => encW cs ++ [32]
def jc : B8 → List (List Nat) → List (B8 × List Nat)
  | _, [] => []
  | g, cs :: r => (g, cs) :: jc [32] r
theorem mach_jn (css : List (List Nat)) (h : ∀ cs ∈ css, Lts cs ∧ cs ≠ []) : ∀ g, mach (unL (jn css)) g [] = jc g css := by
  induction css with
  | nil => intro g; rfl
  | cons cs r ih =>
    intro g
    have hc := h cs (by simp)
    have e : jn (cs :: r) = encW cs ++ (32 :: jn r) := by
      show (encW cs ++ [32]) ++ jn r = _
      rw [List.append_assoc]; rfl
    rw [e, unL_letters _ hc.1, mach_letters, List.nil_append, unL_asc 32 (by decide) (by decide)]
    show (if cs = [] then _ else _) = _
    rw [if_neg hc.2, ih (fun x hx => h x (by simp [hx]))]
    rfl
theorem jc_words (css : List (List Nat)) (h : ∀ cs ∈ css, cutR cs 0 = cs) : ∀ g, wordsOf (jc g css) = css.map encW := by
  induction css with
  | nil => intro g; rfl
  | cons cs r ih =>
    intro g
    show encW (cutR cs 0) :: wordsOf (jc [32] r) = _
    rw [h cs (by simp), ih (fun x hx => h x (by simp [hx]))]
    rfl
theorem jc_none (css : List (List Nat)) : ∀ k, sentF k (jc [32] css) = [] ∧ parsF k (jc [32] css) = [] := by
  have h1 : parB false [32] = false := by decide
  have h2 : stopB [32] = false := by decide
  induction css with
  | nil => intro k; exact ⟨rfl, rfl⟩
  | cons cs r ih =>
    intro k
    constructor
    · show (if 0 < k ∧ (parB false [32] = true ∨ stopB [32] = true) then [k] else []) ++ sentF (k + 1) (jc [32] r) = []
      rw [(ih (k + 1)).1, if_neg (by rw [h1, h2]; simp)]
      rfl
    · show (if 0 < k ∧ parB false [32] = true then [k] else []) ++ parsF (k + 1) (jc [32] r) = []
      rw [(ih (k + 1)).2, if_neg (by rw [h1]; simp)]
      rfl
theorem jc_none0 (css : List (List Nat)) : sentF 0 (jc [] css) = [] ∧ parsF 0 (jc [] css) = [] := by
  cases css with
  | nil => exact ⟨rfl, rfl⟩
  | cons cs r =>
    constructor
    · show (if 0 < 0 ∧ _ then _ else []) ++ sentF (0 + 1) (jc [32] r) = []
      rw [(jc_none r _).1, if_neg (fun h => absurd h.1 (by omega))]; rfl
    · show (if 0 < 0 ∧ _ then _ else []) ++ parsF (0 + 1) (jc [32] r) = []
      rw [(jc_none r _).2, if_neg (fun h => absurd h.1 (by omega))]; rfl
/-- The words of a text, as signs. -/
def cutsOf (l : B8) : List (List Nat) := (chL l).map fun c => cutR c.2 0
theorem cutsOf_words (l : B8) : wordsOf (chL l) = (cutsOf l).map encW := by unfold wordsOf cutsOf wordOf; rw [List.map_map]; rfl
theorem cutsOf_ok (l : B8) : ∀ cs ∈ cutsOf l, Lts cs ∧ cs ≠ [] ∧ cutR cs 0 = cs ∧ (encW cs).length ≤ 80 := by
  intro cs hcs
  obtain ⟨c, hc, rfl⟩ := List.mem_map.1 hcs
  obtain ⟨h1, h2⟩ := ch_ok _ l (Nat.le_refl _) c hc
  have := cutR_len c.2 0 (by omega)
  exact ⟨cutR_lts _ h1, cutR_ne _ h2, cutR_idem _ 0, by omega⟩
theorem jn_split (l : B8) : wordsOf (chL (jn (cutsOf l))) = wordsOf (chL l) ∧ sentF 0 (chL (jn (cutsOf l))) = [] ∧ parsF 0 (chL (jn (cutsOf l))) = [] := by
  have e : chL (jn (cutsOf l)) = jc [] (cutsOf l) := by rw [chL_eq]; exact mach_jn _ (fun cs h => ⟨(cutsOf_ok l cs h).1, (cutsOf_ok l cs h).2.1⟩) []
  rw [e, cutsOf_words]
  exact ⟨jc_words _ (fun cs h => (cutsOf_ok l cs h).2.2.1) [], jc_none0 _⟩
theorem ch_total (n : Nat) : ∀ (l : B8), l.length ≤ n → (chL l).length ≤ l.length := by
  induction n with
  | zero =>
    intro l h
    obtain rfl := List.eq_nil_of_length_eq_zero (Nat.le_zero.1 h)
    exact Nat.le_refl _
  | succ n ih =>
    intro l h
    by_cases hl : letL (l.drop (runL l false)) = []
    · rw [chL_end l hl]; simp
    · rw [chL_step l hl]
      have hp := encW_pos _ hl
      have h1 := runL_len l false
      have h3 := (letL_spec (l.drop (runL l false))).2.1
      have h4 := congrArg List.length h3
      rw [List.length_append, List.length_drop] at h4
      have := ih (l.drop (runL l false + (encW (letL (l.drop (runL l false)))).length)) (by rw [List.length_drop]; omega)
      rw [List.length_drop] at this
      rw [List.length_cons]
      omega
theorem ch_len (l : B8) : (chL l).length ≤ l.length := ch_total _ l (Nat.le_refl _)
theorem jn_len (css : List (List Nat)) (h : ∀ cs ∈ css, (encW cs).length ≤ 80) : (jn css).length ≤ 81 * css.length := by
  induction css with
  | nil => simp [jn]
  | cons cs r ih =>
    have := h cs (by simp)
    have h2 := ih (fun x hx => h x (by simp [hx]))
    show ((encW cs ++ [32]) ++ jn r).length ≤ _
    rw [List.length_append, List.length_append]
    simp only [List.length_cons, List.length_nil]
    omega
theorem sentF_app (a b : List (B8 × List Nat)) : ∀ k, sentF k (a ++ b) = sentF k a ++ sentF (k + a.length) b := by
  induction a with
  | nil => intro k; rfl
  | cons c a ih =>
    intro k
    show _ ++ sentF (k + 1) (a ++ b) = (_ ++ sentF (k + 1) a) ++ _
    rw [ih, List.append_assoc, show k + 1 + a.length = k + (c :: a).length by simp; omega]
theorem parsF_app (a b : List (B8 × List Nat)) : ∀ k, parsF k (a ++ b) = parsF k a ++ parsF (k + a.length) b := by
  induction a with
  | nil => intro k; rfl
  | cons c a ih =>
    intro k
    show _ ++ parsF (k + 1) (a ++ b) = (_ ++ parsF (k + 1) a) ++ _
    rw [ih, List.append_assoc, show k + 1 + a.length = k + (c :: a).length by simp; omega]
theorem sentF_bd (cs : List (B8 × List Nat)) : ∀ k j, j ∈ sentF k cs → k ≤ j ∧ j < k + cs.length ∧ 0 < j := by
  induction cs with
  | nil => intro k j h; simp [sentF] at h
  | cons c cs ih =>
    intro k j h
    rcases List.mem_append.1 h with h | h
    · split at h
      · rename_i hc
        have := List.mem_singleton.1 h
        simp; omega
      · simp at h
    · have := ih (k + 1) j h
      simp; omega
theorem parsF_shift (n : Nat) (cs : List (B8 × List Nat)) : ∀ k j, 0 < k → j ∈ parsF k cs → n + j ∈ parsF (n + k) cs := by
  induction cs with
  | nil => intro k j _ h; simp [parsF] at h
  | cons c cs ih =>
    intro k j hk h
    rcases List.mem_append.1 h with h | h
    · refine List.mem_append.2 (.inl ?_)
      split at h
      · rename_i hc
        have := List.mem_singleton.1 h
        rw [if_pos ⟨by omega, hc.2⟩, this]
        exact List.mem_singleton.2 rfl
      · simp at h
    · refine List.mem_append.2 (.inr ?_)
      exact ih (k + 1) j (by omega) h
theorem par_app (q : B8) (h : ∀ nl, parB nl q = true) (p : B8) : ∀ nl, parB nl (p ++ q) = true := by
  induction p with
  | nil => intro nl; exact h nl
  | cons c p ih =>
    intro nl
    show parB nl (c :: (p ++ q)) = true
    unfold parB
    split
    · split
      · rfl
      · exact ih _
    · split
      · exact ih _
      · exact ih _
theorem stop_app (p q : B8) (h : stopB q = true) : stopB (p ++ q) = true := by unfold stopB at *; rw [List.any_append, h]; simp
/-- The gap that TokenJoins lays between two texts. -/
def gapOf (para : Bool) : B8 := if para then [44, 10, 10, 44] else [32, 44, 46]
theorem gap_plain (para : Bool) : plainGap (gapOf para) ∧ gapOf para ≠ [] := by
  cases para
  · refine ⟨?_, by decide⟩
    intro c hc
    simp only [gapOf, Bool.false_eq_true, if_false, List.mem_cons, List.not_mem_nil, or_false] at hc
    rcases hc with rfl | rfl | rfl <;> decide
  · refine ⟨?_, by decide⟩
    intro c hc
    simp only [gapOf, if_true, List.mem_cons, List.not_mem_nil, or_false] at hc
    rcases hc with rfl | rfl | rfl | rfl <;> decide
theorem gap_sent (para : Bool) (p h : B8) : parB false ((p ++ gapOf para) ++ h) = true ∨ stopB ((p ++ gapOf para) ++ h) = true := by
  cases para
  · right
    rw [List.append_assoc]
    exact stop_app _ _ (by simp [gapOf, stopB])
  · left
    rw [List.append_assoc]
    exact par_app _ (fun nl => by simp [gapOf, parB]) p false
theorem gap_par (p h : B8) : parB false ((p ++ gapOf true) ++ h) = true := by
  rw [List.append_assoc]
  exact par_app _ (fun nl => by simp [gapOf, parB]) p false
structure JoinFacts (a b z : B8) (para : Bool) : Prop where
  ws : wordsOf (chL z) = wordsOf (chL a) ++ wordsOf (chL b)
  s0 : (wordsOf (chL a) = [] ∨ wordsOf (chL b) = []) → (wordsOf (chL a)).length ∉ sentF 0 (chL z)
  s1 : wordsOf (chL a) ≠ [] → wordsOf (chL b) ≠ [] → ∀ k ∈ sentF 0 (chL a), k ∈ sentF 0 (chL z)
  p1 : wordsOf (chL a) ≠ [] → wordsOf (chL b) ≠ [] → ∀ k ∈ parsF 0 (chL b), (wordsOf (chL a)).length + k ∈ parsF 0 (chL z)
  s2 : wordsOf (chL a) ≠ [] → wordsOf (chL b) ≠ [] → (wordsOf (chL a)).length ∈ sentF 0 (chL z)
  p2 : wordsOf (chL a) ≠ [] → wordsOf (chL b) ≠ [] → para = true → (wordsOf (chL a)).length ∈ parsF 0 (chL z)
theorem words_len (cs : List (B8 × List Nat)) : (wordsOf cs).length = cs.length := by simp [wordsOf]
theorem join_facts (a b : B8) (para : Bool) : JoinFacts a b (a ++ (gapOf para ++ b)) para := by
  obtain ⟨hg, hne⟩ := gap_plain para
  obtain ⟨p, hp⟩ := chL_join a b (gapOf para) hg hne
  have hpw : wordsOf (prep (p ++ gapOf para) (chL b)) = wordsOf (chL b) := by
    cases chL b with
    | nil => rfl
    | cons c cs => rfl
  have hwe : ∀ l : B8, wordsOf (chL l) = [] → chL l = [] := fun l h => by unfold wordsOf at h; exact List.map_eq_nil_iff.1 h
  have hwn : ∀ l : B8, wordsOf (chL l) ≠ [] → ∃ c cs, chL l = c :: cs := fun l h => by
    cases hc : chL l with
    | nil => rw [hc] at h; exact absurd rfl h
    | cons c cs => exact ⟨c, cs, rfl⟩
  refine ⟨?_, ?_, ?_, ?_, ?_, ?_⟩
  · rw [hp]
    unfold wordsOf at hpw ⊢
    rw [List.map_append, hpw]
  · intro h hm
    rw [hp] at hm
    have hb := sentF_bd _ 0 _ hm
    rcases h with h | h
    · rw [h] at hb; simp at hb
    · rw [hwe b h] at hb
      rw [words_len] at hb
      simp [prep] at hb
  · intro _ _ k hk
    rw [hp, sentF_app]
    exact List.mem_append_left _ hk
  · intro ha hb k hk
    obtain ⟨c, cs, hc⟩ := hwn b hb
    rw [hp, parsF_app, words_len, Nat.zero_add, hc]
    rw [hc] at hk
    refine List.mem_append_right _ ?_
    have hk2 : k ∈ parsF 1 cs := by
      rcases List.mem_append.1 hk with h | h
      · simp at h
      · exact h
    exact List.mem_append_right _ (parsF_shift _ cs 1 k (by omega) hk2)
  · intro ha hb
    obtain ⟨c, cs, hc⟩ := hwn b hb
    obtain ⟨d, ds, hd⟩ := hwn a ha
    rw [hp, sentF_app, words_len, Nat.zero_add, hc]
    refine List.mem_append_right _ (List.mem_append_left _ ?_)
    show _ ∈ (if 0 < (chL a).length ∧ (parB false ((p ++ gapOf para) ++ c.1) = true ∨ stopB ((p ++ gapOf para) ++ c.1) = true) then [(chL a).length] else [])
    rw [if_pos ⟨by rw [hd]; simp, gap_sent para p c.1⟩]
    exact List.mem_singleton.2 rfl
  · intro ha hb hpa
    subst hpa
    obtain ⟨c, cs, hc⟩ := hwn b hb
    obtain ⟨d, ds, hd⟩ := hwn a ha
    rw [hp, parsF_app, words_len, Nat.zero_add, hc]
    refine List.mem_append_right _ (List.mem_append_left _ ?_)
    show _ ∈ (if 0 < (chL a).length ∧ parB false ((p ++ gapOf true) ++ c.1) = true then [(chL a).length] else [])
    rw [if_pos ⟨by rw [hd]; simp, gap_par p c.1⟩]
    exact List.mem_singleton.2 rfl
end Go.Proofs.YtpgfiecfndkheaaDoor
