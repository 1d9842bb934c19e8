/- All hits of a cursor: plain. -/
import Derived.Test.YtjigaoclngfcaaaPoSk
import Derived.Test.YtjigaoclngfcaaaPoLay
namespace Go.Proofs.Ytjigaoclngfcaaa
set_option maxRecDepth 100000

theorem seekP_T (doc : Int) : ∀ (f : Nat) (s : PS) (h : HN), (seekP doc f s).1 = some h → (seekP doc f s).2.he + (seekP doc f s).2.bh < s.he + s.bh
  | 0, s, h, k => by cases k
  | f + 1, s, h, k => by
    have key : ∀ s1 : PS, 0 < s1.he → s1.he + s1.bh ≤ s.he + s.bh → seekP doc (f + 1) s = ((lookP s1).1.elim (seekP doc f (lookP s1).2) fun x => if doc ≤ (x.1 : Int) then (some x, (lookP s1).2) else seekP doc f (lookP s1).2) → (seekP doc (f + 1) s).2.he + (seekP doc (f + 1) s).2.bh < s.he + s.bh := fun s1 h1 h2 e => by
      have hT := lookP_T s1 h1
      rw [e] at k ⊢
      cases hl : (lookP s1).1 with
      | none =>
        rw [hl] at k
        have := seekP_T doc f _ h k
        show (seekP doc f (lookP s1).2).2.he + (seekP doc f (lookP s1).2).2.bh < _
        omega
      | some x =>
        rw [hl] at k
        simp only [Option.elim_some] at k ⊢
        by_cases hd : doc ≤ (x.1 : Int)
        · rw [if_pos hd]; simp only; omega
        · rw [if_neg hd] at k ⊢
          have := seekP_T doc f _ h k
          omega
    by_cases hh : 0 < s.he
    · exact key s hh (Nat.le_refl _) (seekP_here doc f s hh)
    · have h0 : s.he = 0 := by omega
      cases hb : (enterP doc s.bh s).1 with
      | false => rw [seekP_out doc f s h0 hb] at k; cases k
      | true =>
        obtain ⟨t1, t2⟩ := enterP_true doc s.bh s hb
        exact key _ t1 (by omega) (seekP_in doc f s h0 hb)
/-- No bytes are longer than so many. -/
def okM (M : Nat) (s : PS) : Prop := (∀ l, s.bb = some l → l.length ≤ M) ∧ (0 < s.he → s.kb.length ≤ M)
theorem enterP_M (doc : Int) (M : Nat) : ∀ (f : Nat) (st : PS), st.he = 0 → okM M st → okM M (enterP doc f st).2
  | 0, st, _, h => h
  | f + 1, st, h0, h => by
    by_cases hb : st.bh = 0
    · rw [enterP_zero doc _ st hb]; exact h
    · cases hbb : st.bb with
      | none => rw [enterP_err doc f st hb hbb]; exact h
      | some l =>
        have hl := h.1 l hbb
        cases h1 : rdN l 1000 with
        | none => rw [enterP_e1 doc f st l hb hbb h1]; exact ⟨fun l h => by simp at h, h.2⟩
        | some p =>
          obtain ⟨x, l1⟩ := p
          have g1 := rdN_len h1
          cases h2 : rdT l1 with
          | none => rw [enterP_e2 doc f st l l1 x hb hbb h1 h2]; exact ⟨fun l h => by simp at h, h.2⟩
          | some q =>
            obtain ⟨t, l2⟩ := q
            have g2 := rdT_len h2
            rw [enterP_at doc f st l l1 t l2 x hb hbb h1 h2]
            by_cases hd : doc ≤ ((st.la + x : Nat) : Int)
            · rw [if_pos hd]
              exact ⟨fun l h => by simp only [Option.some.injEq] at h; subst h; omega, fun _ => by simp only; omega⟩
            · rw [if_neg hd]
              exact enterP_M doc M f _ h0 ⟨fun l h => by simp only [Option.some.injEq] at h; subst h; omega, h.2⟩
theorem lookP_M (M : Nat) (s : PS) (hh : 0 < s.he) (h : okM M s) : okM M (lookP s).2 ∧ ∀ x, (lookP s).1 = some x → x.2.length ≤ M := by
  have hk := h.2 hh
  unfold lookP
  cases hp : hitP s.kb s.dc with
  | none => exact ⟨⟨h.1, fun k => absurd k (Nat.lt_irrefl _)⟩, fun x hx => by cases hx⟩
  | some y =>
    have g := hitP_len hp
    refine ⟨⟨h.1, fun _ => ?_⟩, fun x hx => ?_⟩
    · show y.2.length ≤ M
      omega
    · have e : y.1 = x := Option.some.inj hx
      rw [← e]
      omega
theorem seekP_M (doc : Int) (M : Nat) : ∀ (f : Nat) (s : PS), okM M s → okM M (seekP doc f s).2 ∧ ∀ x, (seekP doc f s).1 = some x → x.2.length ≤ M
  | 0, s, h => ⟨h, fun x hx => by cases hx⟩
  | f + 1, s, h => by
    have key : ∀ s1 : PS, 0 < s1.he → okM M s1 → seekP doc (f + 1) s = ((lookP s1).1.elim (seekP doc f (lookP s1).2) fun x => if doc ≤ (x.1 : Int) then (some x, (lookP s1).2) else seekP doc f (lookP s1).2) → okM M (seekP doc (f + 1) s).2 ∧ ∀ x, (seekP doc (f + 1) s).1 = some x → x.2.length ≤ M := fun s1 h1 h2 e => by
      obtain ⟨m1, m2⟩ := lookP_M M s1 h1 h2
      rw [e]
      cases hl : (lookP s1).1 with
      | none => exact seekP_M doc M f _ m1
      | some x =>
        simp only [Option.elim_some]
        by_cases hd : doc ≤ (x.1 : Int)
        · rw [if_pos hd]
          exact ⟨m1, fun y hy => by rw [← Option.some.inj hy]; exact m2 x hl⟩
        · rw [if_neg hd]
          exact seekP_M doc M f _ m1
    by_cases hh : 0 < s.he
    · exact key s hh h (seekP_here doc f s hh)
    · have h0 : s.he = 0 := by omega
      cases hb : (enterP doc s.bh s).1 with
      | false => rw [seekP_out doc f s h0 hb]; exact ⟨enterP_M doc M _ s h0 h, fun x hx => by cases hx⟩
      | true => exact key _ (enterP_true doc s.bh s hb).1 (enterP_M doc M _ s h0 h) (seekP_in doc f s h0 hb)
def nextP (s : PS) : Option HN × PS := seekP 0 (s.he + s.bh + 1) s
/-- All hits, one behind the other. -/
def runP : Nat → PS → List HN
  | 0, _ => []
  | f + 1, s => (nextP s).1.elim [] fun h => h :: runP f (nextP s).2
theorem runP_none (f : Nat) (s : PS) (h : (nextP s).1 = none) : runP f s = [] := by
  cases f with
  | zero => rfl
  | succ f => rw [runP, h]; rfl
theorem runP_some (f : Nat) (s : PS) (x : HN) (h : (nextP s).1 = some x) : runP (f + 1) s = x :: runP f (nextP s).2 := by rw [runP, h]; rfl
theorem runP_len : ∀ (f : Nat) (s : PS), (runP f s).length ≤ s.he + s.bh
  | 0, _ => by simp [runP]
  | f + 1, s => by
    cases h : (nextP s).1 with
    | none => rw [runP_none _ _ h]; simp
    | some x =>
      rw [runP_some f s x h]
      have := runP_len f (nextP s).2
      have := seekP_T 0 _ s x h
      unfold nextP at *
      simp only [List.length_cons]
      omega
theorem runP_M (M : Nat) : ∀ (f : Nat) (s : PS), okM M s → ∀ x ∈ runP f s, x.2.length ≤ M
  | 0, _, _, x, hx => by simp [runP] at hx
  | f + 1, s, h, x, hx => by
    cases hn : (nextP s).1 with
    | none => rw [runP_none _ _ hn] at hx; simp at hx
    | some y =>
      rw [runP_some f s y hn] at hx
      have m := seekP_M 0 M (s.he + s.bh + 1) s h
      rcases List.mem_cons.1 hx with rfl | hx
      · exact m.2 _ hn
      · exact runP_M M f _ m.1 x hx
def toHI (h : HN) : HI := ((h.1 : Int), h.2.map fun (n : Nat) => (n : Int))
end Go.Proofs.Ytjigaoclngfcaaa
