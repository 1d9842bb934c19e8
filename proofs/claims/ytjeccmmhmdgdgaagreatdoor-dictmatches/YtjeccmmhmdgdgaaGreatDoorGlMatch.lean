/- What a pattern's parts say of signs, as plain functions: all ways at once; part by part. No Go in sight. -/
import Derived.Test.YtjeccmmhmdgdgaaGreatDoorGlSpec
import Derived.Laws.IdiomStrings
namespace Go.Proofs.YtjeccmmhmdgdgaaGreatDoor
open Go.Lib
set_option maxRecDepth 100000

/-! texts of signs -/
def encAll (rs : List Nat) : List UInt8 := rs.flatMap encS
def allSign (rs : List Nat) : Prop := ∀ r ∈ rs, isSign r
theorem encAll_cons (r : Nat) (rs : List Nat) : encAll (r :: rs) = encS r ++ encAll rs := rfl
theorem encAll_app (a b : List Nat) : encAll (a ++ b) = encAll a ++ encAll b := by simp [encAll]
theorem encAll_len (rs : List Nat) : rs.length ≤ (encAll rs).length := by
  induction rs with
  | nil => simp
  | cons r t ih => rw [encAll_cons, List.length_append, List.length_cons]; have := (encS_len r).1; omega
theorem encAll_len4 (rs : List Nat) : (encAll rs).length ≤ 4 * rs.length := by
  induction rs with
  | nil => simp [encAll]
  | cons r t ih => rw [encAll_cons, List.length_append, List.length_cons]; have := (encS_len r).2; omega
theorem valid_all (rs : List Nat) (h : allSign rs) : validD (encAll rs) = true := by
  induction rs with
  | nil => rfl
  | cons r t ih => rw [encAll_cons, valid_enc_app r (h r (by simp))]; exact ih fun x hx => h x (by simp [hx])
theorem signs_of (n : Nat) : ∀ l : List UInt8, l.length ≤ n → validD l = true → ∃ rs, allSign rs ∧ l = encAll rs := by
  induction n with
  | zero => intro l h _; obtain rfl := List.eq_nil_of_length_eq_zero (by omega : l.length = 0); exact ⟨[], fun _ h => by simp at h, rfl⟩
  | succ n ih =>
    intro l hl hv
    by_cases he : l = []
    · subst he; exact ⟨[], fun _ h => by simp at h, rfl⟩
    · obtain ⟨r, rest, hr, rfl, hv2⟩ := valid_head l he hv
      have := (encS_len r).1
      rw [List.length_append] at hl
      obtain ⟨rs, h1, rfl⟩ := ih rest (by omega) hv2
      exact ⟨r :: rs, fun x hx => by rcases List.mem_cons.1 hx with rfl | hx; exact hr; exact h1 x hx, rfl⟩
theorem signs_ex (l : List UInt8) (h : validD l = true) : ∃ rs, allSign rs ∧ l = encAll rs := signs_of _ l (Nat.le_refl _) h
theorem encAll_inj : ∀ (a b : List Nat), allSign a → allSign b → encAll a = encAll b → a = b
  | [], [], _, _, _ => rfl
  | [], r :: t, _, _, h => by
    have h2 := congrArg List.length h
    rw [encAll_cons, List.length_append] at h2
    have := (encS_len r).1
    rw [show encAll ([] : List Nat) = [] from rfl, List.length_nil] at h2
    omega
  | r :: t, [], _, _, h => by
    have h2 := congrArg List.length h
    rw [encAll_cons, List.length_append] at h2
    have := (encS_len r).1
    rw [show encAll ([] : List Nat) = [] from rfl, List.length_nil] at h2
    omega
  | r :: t, q :: u, ha, hb, h => by
    rw [encAll_cons, encAll_cons] at h
    have e1 := nextN_enc r (ha r (by simp)) (encAll t)
    have e2 := nextN_enc q (hb q (by simp)) (encAll u)
    rw [h, e2] at e1
    obtain ⟨rfl, _⟩ := Prod.mk.inj e1
    rw [encAll_inj t u (fun x hx => ha x (by simp [hx])) (fun x hx => hb x (by simp [hx])) (List.append_cancel_left h)]
theorem decode_drop (l : List UInt8) (i : Nat) (h : l.drop i ≠ []) : Utf8.decode ⟨l.toArray⟩ i = decL (l.drop i) := by
  have hs : (⟨l.toArray⟩ : ByteArray).size = l.length := by simp [ByteArray.size]
  have hb : ∀ j, bt l (i + j) = bt (l.drop i) j := fun j => by unfold bt; rw [List.getElem?_drop]
  rw [decode_at, hs, get_bt, get_bt, get_bt, get_bt]
  unfold decL
  rw [if_neg h, List.length_drop, ← hb 0, ← hb 1, ← hb 2, ← hb 3]
  rfl
theorem runes_all (rs : List Nat) : ∀ (pre : List UInt8) (bound : Nat) (acc : Array Value), allSign rs → (encAll rs).length ≤ bound →
    Conv.runesFrom ⟨(pre ++ encAll rs).toArray⟩ bound pre.length acc = acc ++ (rs.map fun r : Nat => Value.int .i32 (r : Int)).toArray := by
  induction rs with
  | nil =>
    intro pre bound acc _ _
    have hs : (⟨(pre ++ encAll []).toArray⟩ : ByteArray).size = pre.length := by simp [ByteArray.size, encAll]
    cases bound with
    | zero => simp [Conv.runesFrom]
    | succ b => rw [Conv.runesFrom, hs, if_neg (by omega)]; simp
  | cons r t ih =>
    intro pre bound acc hs hb
    have hl := (encS_len r).1
    rw [encAll_cons, List.length_append] at hb
    cases bound with
    | zero => omega
    | succ b =>
      have hsz : (⟨(pre ++ encAll (r :: t)).toArray⟩ : ByteArray).size = pre.length + ((encS r).length + (encAll t).length) := by simp [ByteArray.size, encAll_cons]
      have hd : (pre ++ encAll (r :: t)).drop pre.length = encS r ++ encAll t := by rw [List.drop_left, encAll_cons]
      have hne : (pre ++ encAll (r :: t)).drop pre.length ≠ [] := by rw [hd]; intro e; have e2 := congrArg List.length e; rw [List.length_append, List.length_nil] at e2; omega
      rw [Conv.runesFrom, hsz, if_pos (by omega), decode_drop _ _ hne, hd, decL_enc r (hs r (by simp))]
      have e : pre ++ encAll (r :: t) = (pre ++ encS r) ++ encAll t := by rw [encAll_cons, List.append_assoc]
      have hp : pre.length + (encS r).length = (pre ++ encS r).length := by simp
      simp only
      rw [e, hp, ih (pre ++ encS r) b _ (fun x hx => hs x (by simp [hx])) (by omega)]
      simp
theorem runes_eq (rs : List Nat) (h : allSign rs) : Conv.runesFrom ⟨(encAll rs).toArray⟩ (⟨(encAll rs).toArray⟩ : ByteArray).size 0 #[] = (rs.map fun r : Nat => Value.int .i32 (r : Int)).toArray := by
  have hs : (⟨(encAll rs).toArray⟩ : ByteArray).size = (encAll rs).length := by simp [ByteArray.size]
  rw [hs]
  have := runes_all rs [] (encAll rs).length #[] h (Nat.le_refl _)
  simpa using this

/-! all ways at once -/
def stepS (ss : List Int) (sg : Int) (E : Nat → Bool) : Nat → Bool
  | 0 => false
  | k + 1 => E k && (ss.getD k 0 == sg)
def stepA (lo hi : Int) (E : Nat → Bool) (i : Nat) : Bool := (List.range (i + 1)).any fun j => E j && (decide (lo ≤ (i : Int) - j) && decide ((i : Int) - j ≤ hi))
def stepE (p : GP) (ss : List Int) (E : Nat → Bool) : Nat → Bool := if p.1 then stepA p.2.2.1 p.2.2.2 E else stepS ss p.2.1 E
def endsE (ps : List GP) (ss : List Int) : Nat → Bool := ps.foldl (fun E p => stepE p ss E) (fun i => i == 0)
def matchB (ps : List GP) (ss : List Int) : Bool := endsE ps ss ss.length
theorem endsE_snoc (ps : List GP) (p : GP) (ss : List Int) : endsE (ps ++ [p]) ss = stepE p ss (endsE ps ss) := by unfold endsE; rw [List.foldl_append]; rfl
theorem stepA_iff (lo hi : Int) (E : Nat → Bool) (i : Nat) : stepA lo hi E i = true ↔ ∃ j, j ≤ i ∧ E j = true ∧ lo ≤ (i : Int) - j ∧ (i : Int) - j ≤ hi := by
  unfold stepA
  simp only [List.any_eq_true, List.mem_range, Bool.and_eq_true, decide_eq_true_eq]
  constructor
  · rintro ⟨j, h1, h2, h3, h4⟩; exact ⟨j, by omega, h2, h3, h4⟩
  · rintro ⟨j, h1, h2, h3, h4⟩; exact ⟨j, by omega, h2, h3, h4⟩

/-! part by part -/
def okP (p : GP) (b : List Int) : Prop := if p.1 then p.2.2.1 ≤ b.length ∧ (b.length : Int) ≤ p.2.2.2 else b = [p.2.1]
def MtP : List GP → List Int → Prop
  | [], u => u = []
  | p :: ps, u => ∃ n, n ≤ u.length ∧ okP p (u.take n) ∧ MtP ps (u.drop n)
theorem MtP_app (a b : List GP) : ∀ u, MtP (a ++ b) u ↔ ∃ n, n ≤ u.length ∧ MtP a (u.take n) ∧ MtP b (u.drop n) := by
  induction a with
  | nil =>
    intro u
    constructor
    · intro h; exact ⟨0, Nat.zero_le _, by simp [MtP], by simpa using h⟩
    · rintro ⟨n, hn, h1, h2⟩
      have h0 : n = 0 := by
        have e : u.take n = [] := h1
        have e2 := congrArg List.length e
        rw [List.length_take, List.length_nil] at e2
        omega
      subst h0; simpa using h2
  | cons p t ih =>
    intro u
    rw [List.cons_append]
    constructor
    · rintro ⟨n, hn, h1, h2⟩
      obtain ⟨m, hm, h3, h4⟩ := (ih _).1 h2
      rw [List.length_drop] at hm
      refine ⟨n + m, by omega, ⟨n, by simp; omega, ?_, ?_⟩, ?_⟩
      · rw [List.take_take, Nat.min_eq_left (by omega)]; exact h1
      · rw [List.drop_take, show n + m - n = m by omega]; exact h3
      · rw [← List.drop_drop]; exact h4
    · rintro ⟨n, hn, ⟨m, hm, h1, h2⟩, h3⟩
      rw [List.length_take] at hm
      refine ⟨m, by omega, ?_, (ih _).2 ⟨n - m, by simp; omega, ?_, ?_⟩⟩
      · rw [List.take_take, Nat.min_eq_left (by omega)] at h1; exact h1
      · rw [List.drop_take] at h2; exact h2
      · rw [List.drop_drop, show m + (n - m) = n by omega]; exact h3
theorem MtP_one (p : GP) (u : List Int) : MtP [p] u ↔ okP p u := by
  constructor
  · rintro ⟨n, hn, h1, h2⟩
    have : u.drop n = [] := h2
    rw [List.drop_eq_nil_iff] at this
    rwa [List.take_of_length_le this] at h1
  · intro h; exact ⟨u.length, Nat.le_refl _, by simpa using h, by simp [MtP]⟩
theorem ends_iff (ps : List GP) (ss : List Int) : ∀ i, i ≤ ss.length → (endsE ps ss i = true ↔ MtP ps (ss.take i)) := by
  suffices h : ∀ rs : List GP, ∀ i, i ≤ ss.length → (endsE rs.reverse ss i = true ↔ MtP rs.reverse (ss.take i)) by
    have := h ps.reverse
    rwa [List.reverse_reverse] at this
  intro rs
  induction rs with
  | nil =>
    intro i hi
    show ((i == 0) = true) ↔ (ss.take i = [])
    rw [beq_iff_eq]
    constructor
    · rintro rfl; rfl
    · intro h; have e2 := congrArg List.length h; rw [List.length_take, List.length_nil] at e2; omega
  | cons p t ih =>
    intro i hi
    rw [List.reverse_cons, endsE_snoc, MtP_app]
    unfold stepE
    by_cases hp : p.1 = true
    · rw [if_pos hp, stepA_iff]
      constructor
      · rintro ⟨j, h1, h2, h3, h4⟩
        refine ⟨j, by simp; omega, ?_, (MtP_one _ _).2 ?_⟩
        · rw [List.take_take, Nat.min_eq_left h1]; exact (ih j (by omega)).1 h2
        · unfold okP; rw [if_pos hp, List.length_drop, List.length_take]; omega
      · rintro ⟨j, h1, h2, h3⟩
        rw [List.length_take] at h1
        rw [List.take_take, Nat.min_eq_left (by omega)] at h2
        have h4 := (MtP_one _ _).1 h3
        unfold okP at h4
        rw [if_pos hp, List.length_drop, List.length_take] at h4
        exact ⟨j, by omega, (ih j (by omega)).2 h2, by omega, by omega⟩
    · rw [if_neg hp]
      cases i with
      | zero =>
        constructor
        · intro h; cases h
        · rintro ⟨n, h1, h2, h3⟩
          have h4 := (MtP_one _ _).1 h3
          unfold okP at h4
          rw [if_neg hp] at h4
          have := congrArg List.length h4
          simp at this
      | succ k =>
        show (endsE t.reverse ss k && (ss.getD k 0 == p.2.1)) = true ↔ _
        have hk : k < ss.length := by omega
        have ht : ss.take (k + 1) = ss.take k ++ [ss[k]] := List.take_succ_eq_append_getElem hk
        have hg : ss.getD k 0 = ss[k] := by rw [List.getD_eq_getElem?_getD, List.getElem?_eq_getElem hk]; rfl
        rw [Bool.and_eq_true, beq_iff_eq, hg]
        constructor
        · rintro ⟨h1, h2⟩
          refine ⟨k, by simp; omega, ?_, (MtP_one _ _).2 ?_⟩
          · rw [List.take_take, Nat.min_eq_left (by omega)]; exact (ih k (by omega)).1 h1
          · unfold okP; rw [if_neg hp, ht, List.drop_left' (by simp; omega), h2]
        · rintro ⟨n, h1, h2, h3⟩
          have h4 := (MtP_one _ _).1 h3
          unfold okP at h4
          rw [if_neg hp] at h4
          have hn : n = k := by have e2 := congrArg List.length h4; rw [List.length_drop, List.length_take, List.length_singleton] at e2; omega
          subst hn
          rw [List.take_take, Nat.min_eq_left (by omega)] at h2
          rw [ht, List.drop_left' (by simp; omega)] at h4
          exact ⟨(ih n (by omega)).2 h2, by simpa using h4⟩
theorem match_iff (ps : List GP) (ss : List Int) : matchB ps ss = true ↔ MtP ps ss := by
  unfold matchB
  rw [ends_iff ps ss _ (Nat.le_refl _), List.take_length]
end Go.Proofs.YtjeccmmhmdgdgaaGreatDoor
