/- Texts of signs alone, taken apart at signs below 128. -/
import Derived.Test.YtbehfhdkdekjfaaDoorXmNm
namespace Go.Proofs.YtbehfhdkdekjfaaDoor
open Go.Lib

abbrev V8 (l : L8) : Prop := validD l = true
theorem v_cat {a b : L8} (ha : V8 a) (h : V8 (a ++ b)) : V8 b := by rw [V8, ← valid_cat a b ha]; exact h
theorem v_one (c : UInt8) (h : c.toNat < 128) : V8 [c] := by
  have := valid_enc c.toNat (by unfold isSign; omega)
  rw [enc_low _ h] at this
  have e : UInt8.ofNat c.toNat = c := by simp
  rwa [e] at this
theorem v_cons {c : UInt8} {t : L8} (h : c.toNat < 128) : validD (c :: t) = validD t := valid_cat [c] t (v_one c h)
theorem v_ascii : ∀ {a : L8}, (∀ c ∈ a, c.toNat < 128) → V8 a
  | [], _ => rfl
  | c :: t, h => by rw [V8, v_cons (h c (by simp))]; exact v_ascii fun x hx => h x (by simp [hx])
theorem v_cut : ∀ (n : Nat) (a : L8) (c : UInt8) (b : L8), a.length ≤ n → c.toNat < 128 → V8 (a ++ c :: b) → V8 a ∧ V8 b
  | _, [], c, b, _, hc, h => ⟨rfl, by rw [List.nil_append, V8, v_cons hc] at h; exact h⟩
  | 0, x :: t, _, _, hn, _, _ => by simp at hn
  | n + 1, x :: t, c, b, hn, hc, h => by
    obtain ⟨r, rest, hs, e, hr⟩ := valid_head _ (by simp) h
    by_cases hle : (encS r).length ≤ (x :: t).length
    · have e1 : (x :: t) = encS r ++ (x :: t).drop (encS r).length := by
        have h1 := congrArg (List.take (encS r).length) e
        rw [List.take_append_of_le_length hle, List.take_left] at h1
        conv => rhs; arg 1; rw [← h1]
        exact (List.take_append_drop _ _).symm
      have e2 : rest = (x :: t).drop (encS r).length ++ c :: b := by
        have h1 := e
        rw [e1, List.append_assoc] at h1
        exact (List.append_cancel_left h1).symm
      rw [e2] at hr
      have el := encS_len r
      obtain ⟨h1, h2⟩ := v_cut n _ c b (by rw [List.length_drop]; omega) hc hr
      refine ⟨?_, h2⟩
      rw [e1, V8, valid_enc_app r hs]
      exact h1
    · exfalso
      have hgt : (x :: t).length < (encS r).length := by omega
      have h128 : 128 ≤ r := by
        rcases Nat.lt_or_ge r 128 with h' | h'
        · rw [enc_low r h'] at hgt; simp at hgt
        · exact h'
      have hm : c ∈ encS r := by
        have h1 := congrArg (fun l => l[(x :: t).length]?) e
        simp only [List.getElem?_append_right (Nat.le_refl _), Nat.sub_self, List.getElem?_cons_zero] at h1
        rw [List.getElem?_append_left hgt] at h1
        exact List.mem_of_getElem? h1.symm
      have := enc_high r hs h128 c hm
      omega
theorem v_mid {a : L8} {c : UInt8} {b : L8} (hc : c.toNat < 128) (h : V8 (a ++ c :: b)) : V8 a ∧ V8 b := v_cut _ a c b (Nat.le_refl _) hc h
theorem v_tk {p l r : L8} (h : tk p l = some r) (hp : V8 p) (hl : V8 l) : V8 r := v_cat hp (by rw [← tk_app h]; exact hl)
theorem v_up {c : UInt8} {p l a b : L8} (h : upL (c :: p) l = some (a, b)) (hc : c.toNat < 128) (hp : V8 p) (hl : V8 l) : V8 a ∧ V8 b := by
  rw [up_app h] at hl
  obtain ⟨h1, h2⟩ := v_mid hc (by simpa using hl)
  exact ⟨h1, v_cat hp h2⟩
theorem bl_low {c : UInt8} (h : isBl c = true) : c.toNat < 128 := by
  unfold isBl at h
  simp only [Bool.or_eq_true, beq_iff_eq] at h
  rcases h with ((rfl | rfl) | rfl) | rfl <;> decide
theorem v_skip {l : L8} (hl : V8 l) : V8 (skipB l) := by
  have e := List.takeWhile_append_dropWhile (p := isBl) (l := l)
  refine v_cat (v_ascii fun c hc => bl_low ?_) (by unfold skipB; rw [e]; exact hl)
  exact (List.all_eq_true.1 List.all_takeWhile) c hc
theorem v_name {l : L8} (hl : V8 l) : V8 (nameL l).1 ∧ V8 (nameL l).2 := by
  unfold nameL
  split
  · have e := List.takeWhile_append_dropWhile (p := inN) (l := l)
    simp only
    cases hd : l.dropWhile inN with
    | nil => rw [hd, List.append_nil] at e; rw [e]; exact ⟨hl, rfl⟩
    | cons c t =>
      have hc : inN c = false := by
        have := List.head?_dropWhile_not (p := inN) l
        rw [hd] at this
        simpa using this
      have hlow : c.toNat < 128 := by
        rcases Nat.lt_or_ge c.toNat 128 with h | h
        · exact h
        · rw [in_eq, inR_high _ h] at hc; cases hc
      rw [hd] at e
      rw [← e] at hl
      obtain ⟨h1, h2⟩ := v_mid hlow hl
      exact ⟨h1, by rw [V8, v_cons hlow]; exact h2⟩
  · exact ⟨rfl, hl⟩
theorem skip_len (l : L8) : (skipB l).length ≤ l.length := by unfold skipB; exact (List.dropWhile_sublist isBl).length_le
theorem name_len (l : L8) : (nameL l).1.length + (nameL l).2.length = l.length := by
  unfold nameL
  split
  · have := congrArg List.length (List.takeWhile_append_dropWhile (p := inN) (l := l))
    rw [List.length_append] at this
    exact this
  · simp
theorem v_remark {l r : L8} (h : remarkL l = some r) (hl : V8 l) : V8 r ∧ r.length < l.length := by
  unfold remarkL at h
  cases hu : upL [45, 45] l with
  | none => rw [hu] at h; cases h
  | some x =>
    obtain ⟨a, b⟩ := x
    rw [hu] at h
    simp only [Option.bind_some] at h
    have h1 := v_up hu (by decide) (by decide) hl
    have h2 := up_len hu
    have h3 := tk_len h
    refine ⟨v_tk h (by decide) h1.2, ?_⟩
    simp at h2 h3
    omega
theorem v_instr {l r : L8} (h : instrL l = some r) (hl : V8 l) : V8 r ∧ r.length < l.length := by
  unfold instrL at h
  split at h
  · cases h
  · rename_i hc
    have hn := v_name hl
    have hlen := name_len l
    split at h
    · rename_i r' hk
      injection h with h
      subst h
      have := tk_len hk
      simp at this
      exact ⟨v_tk hk (by decide) hn.2, by omega⟩
    · split at h
      · cases hu : upL [63, 62] (skipB (nameL l).2) with
        | none => rw [hu] at h; cases h
        | some x =>
          obtain ⟨a, b⟩ := x
          rw [hu] at h
          simp only [Option.map_some, Option.some.injEq] at h
          subst h
          have h1 := v_up hu (by decide) (by decide) (v_skip hn.2)
          have h2 := up_len hu
          have h3 := skip_len (nameL l).2
          simp at h2
          exact ⟨h1.2, by omega⟩
      · cases h
end Go.Proofs.YtbehfhdkdekjfaaDoor
