/- Patterns as options see them, as plain functions: what their parts are, what they match, what they begin with. -/
import Derived.Test.YtjeccmmhmdgdgaaGreatDoorAlGm
import Derived.Test.YtjeccmmhmdgdgaaGreatDoorAlSpec
namespace Go.Proofs.YtjeccmmhmdgdgaaGreatDoor
open Go.RowKit
set_option maxRecDepth 100000

/-- Each part is a dot, or a sign. -/
def sgGP (ps : List GP) : Prop := ∀ p ∈ ps, (p.1 = true ∧ p.2.1 = 0) ∨ (p.1 = false ∧ ∃ r : Nat, isSign r ∧ p.2.1 = (r : Int))
theorem first_sg (t : List UInt8) (h : (firstL t).2 ≠ 0) : ((firstL t).1.1 = true ∧ (firstL t).1.2.1 = 0) ∨ ((firstL t).1.1 = false ∧ ∃ r : Nat, isSign r ∧ (firstL t).1.2.1 = (r : Int)) := by
  have key : ∀ l : List UInt8, (nextN l).2 ≠ 0 → isSign (nextN l).1 := fun l hk => by
    obtain ⟨r, k, h⟩ : ∃ r k, nextN l = (r, k) := ⟨_, _, rfl⟩
    rw [h] at hk ⊢
    exact (nextN_some l r k h (by omega)).1
  unfold firstL at h ⊢
  split at h
  · rename_i h1
    rw [if_pos h1]
    split at h
    · exact absurd rfl h
    · rename_i h2
      rw [if_neg h2]
      exact .inl ⟨rfl, rfl⟩
  · rename_i h1
    rw [if_neg h1]
    split at h
    · rename_i h2
      rw [if_pos h2]
      split at h
      · exact absurd rfl h
      · rename_i h3
        rw [if_neg h3]
        exact .inr ⟨rfl, _, key _ h3, rfl⟩
    · rename_i h2
      rw [if_neg h2]
      exact .inr ⟨rfl, _, key t (by intro e; apply h; simp [e]), rfl⟩
theorem parse_sg : ∀ (f : Nat) (t : List UInt8) (acc ps : List GP), parseL f t acc = .ok ps → sgGP acc → sgGP ps
  | 0, t, acc, ps, h, ha => by rw [parseL] at h; cases h; exact ha
  | f + 1, t, acc, ps, h, ha => by
    rw [parseL] at h
    by_cases he : t = []
    · rw [if_pos he] at h; cases h; exact ha
    · rw [if_neg he] at h
      split at h
      · cases h
      · split at h
        · cases h
        · rename_i h2
          refine parse_sg f _ _ ps h fun p hp => ?_
          rcases List.mem_append.1 hp with hp | hp
          · exact ha p hp
          · obtain rfl := List.mem_singleton.1 hp
            exact first_sg t h2
theorem sg_of_parse {l : List UInt8} {ps : List GP} (h : parseL l.length l [] = .ok ps) : sgGP ps := parse_sg _ _ _ _ h fun _ h => by simp at h
theorem sg_bd {ps : List GP} (h : sgGP ps) : ∀ p ∈ ps, 0 ≤ p.2.1 ∧ p.2.1 ≤ 1114111 := fun p hp => by
  rcases h p hp with ⟨_, e⟩ | ⟨_, r, hr, e⟩
  · rw [e]; omega
  · rw [e]; have := hr.1; omega
theorem mapG_ok {ps : List GP} (g : Int → Int) (h : okGP ps) : okGP (ps.map (mapG g)) := fun p hp => by
  obtain ⟨q, hq, rfl⟩ := List.mem_map.1 hp
  have := h q hq
  unfold mapG
  split
  · exact this
  · exact this
theorem mapG_sg {ps : List GP} (g : Int → Int) (hg : ∀ r : Nat, isSign r → 0 ≤ g (r : Int) ∧ isSign (g (r : Int)).toNat) (h : sgGP ps) : sgGP (ps.map (mapG g)) := fun p hp => by
  obtain ⟨q, hq, rfl⟩ := List.mem_map.1 hp
  obtain ⟨d, s, lo, hi⟩ := q
  rcases h _ hq with ⟨e1, e2⟩ | ⟨e1, r, hr, e2⟩
  · simp only at e1 e2
    subst e1 e2
    exact .inl ⟨rfl, rfl⟩
  · simp only at e1 e2
    subst e1 e2
    obtain ⟨h1, h2⟩ := hg r hr
    refine .inr ⟨rfl, (g (r : Int)).toNat, h2, ?_⟩
    show max 0 (g (r : Int)) = _
    omega
theorem mapG_congr {ps : List GP} (g f : Int → Int) (h : sgGP ps) (e : ∀ r : Nat, isSign r → g (r : Int) = f (r : Int)) : ps.map (mapG g) = ps.map (mapG f) := by
  refine List.map_congr_left fun p hp => ?_
  obtain ⟨d, s, lo, hi⟩ := p
  rcases h _ hp with ⟨e1, e2⟩ | ⟨e1, r, hr, e2⟩
  · simp only at e1 e2
    subst e1 e2
    rfl
  · simp only at e1 e2
    subst e1 e2
    show (false, max 0 (g (r : Int)), lo, hi) = (false, max 0 (f (r : Int)), lo, hi)
    rw [e r hr]
theorem mapG_mapG {ps : List GP} (g f : Int → Int) (hg : ∀ r : Nat, isSign r → 0 ≤ g (r : Int)) (h : sgGP ps) : (ps.map (mapG g)).map (mapG f) = ps.map (mapG fun x => f (g x)) := by
  rw [List.map_map]
  refine List.map_congr_left fun p hp => ?_
  obtain ⟨d, s, lo, hi⟩ := p
  rcases h _ hp with ⟨e1, e2⟩ | ⟨e1, r, hr, e2⟩
  · simp only at e1 e2
    subst e1 e2
    rfl
  · simp only at e1 e2
    subst e1 e2
    show (false, max 0 (f (max 0 (g (r : Int)))), lo, hi) = (false, max 0 (f (g (r : Int))), lo, hi)
    have := hg r hr
    rw [show max 0 (g (r : Int)) = g (r : Int) by omega]
theorem mapG_id {ps : List GP} (h : sgGP ps) : ps.map (mapG (signO true true)) = ps := by
  conv => rhs; rw [← List.map_id ps]
  refine List.map_congr_left fun p hp => ?_
  obtain ⟨d, s, lo, hi⟩ := p
  rcases h _ hp with ⟨e1, e2⟩ | ⟨e1, r, hr, e2⟩
  · simp only at e1 e2
    subst e1 e2
    rfl
  · simp only at e1 e2
    subst e1 e2
    show (false, max 0 (r : Int), lo, hi) = (false, (r : Int), lo, hi)
    rw [show max 0 (r : Int) = (r : Int) by omega]
/-- The page's two steps, side by side. -/
def marksG (mk : Bool) (ps : List GP) : List GP := if mk then ps else ps.map (mapG plainI)
def caseG (cs : Bool) (ps : List GP) : List GP := if cs then ps else ps.map (mapG lowI)
theorem whole_stepsG (cs mk : Bool) {ps : List GP} (h : sgGP ps) : caseG cs (marksG mk ps) = ps.map (mapG (signO cs mk)) := by
  cases cs <;> cases mk
  · exact mapG_mapG plainI lowI (fun r hr => (plain_sgn r hr).1) h
  · rfl
  · rfl
  · exact (mapG_id h).symm
theorem marksG_sg (mk : Bool) {ps : List GP} (h : sgGP ps) : sgGP (marksG mk ps) := by
  cases mk
  · exact mapG_sg plainI plain_sgn h
  · exact h
/-- What a pattern says of whatever text. -/
noncomputable def matchT (ps : List GP) (l : List UInt8) : Bool := @decide (∃ rs, allSign rs ∧ l = encAll rs ∧ matchB ps (rs.map fun r : Nat => (r : Int)) = true) (Classical.propDecidable _)
theorem matchT_enc (ps : List GP) (rs : List Nat) (h : allSign rs) : matchT ps (encAll rs) = matchB ps (rs.map fun r : Nat => (r : Int)) := by
  unfold matchT
  cases hm : matchB ps (rs.map fun r : Nat => (r : Int)) with
  | true => exact @decide_eq_true _ (Classical.propDecidable _) ⟨rs, h, rfl, hm⟩
  | false =>
    refine @decide_eq_false _ (Classical.propDecidable _) ?_
    rintro ⟨rs', h', e, hm'⟩
    rw [encAll_inj rs rs' h h' e, hm'] at hm
    cases hm
theorem matchT_bad (ps : List GP) (l : List UInt8) (h : Lib.validD l = false) : matchT ps l = false := by
  refine @decide_eq_false _ (Classical.propDecidable _) ?_
  rintro ⟨rs', h', e, _⟩
  rw [e, valid_all rs' h'] at h
  cases h
theorem pref_of : ∀ (ps : List GP) (rs : List Nat), allSign rs → MtP ps (rs.map fun r : Nat => (r : Int)) → ∃ t, encAll rs = prefL ps ++ t
  | [], rs, _, _ => ⟨encAll rs, rfl⟩
  | p :: ps, rs, hs, h => by
    obtain ⟨d, s, lo, hi⟩ := p
    cases d
    · obtain ⟨n, hn, h1, h2⟩ := h
      have h1' : (rs.map fun r : Nat => (r : Int)).take n = [s] := h1
      cases rs with
      | nil => simp at h1'
      | cons r t =>
        have hn1 : n = 1 := by
          have := congrArg List.length h1'
          rw [List.length_take, List.length_singleton] at this
          omega
        subst hn1
        simp at h1'
        subst h1'
        obtain ⟨u, hu⟩ := pref_of ps t (fun x hx => hs x (by simp [hx])) (by simpa using h2)
        refine ⟨u, ?_⟩
        show encS r ++ encAll t = (putL (r : Int) ++ prefL ps) ++ u
        rw [putL_sign r (hs r (by simp)), hu, List.append_assoc]
    · exact ⟨encAll rs, rfl⟩
theorem matchT_pref (ps : List GP) (l : List UInt8) (h : matchT ps l = true) : ∃ t, l = prefL ps ++ t := by
  obtain ⟨rs, hs, rfl, hm⟩ := @of_decide_eq_true _ (Classical.propDecidable _) h
  exact pref_of ps rs hs ((match_iff _ _).1 hm)
theorem prefL_len : ∀ ps : List GP, (prefL ps).length ≤ 4 * ps.length
  | [] => by simp [prefL]
  | p :: t => by
    have ih := prefL_len t
    have := putL_len p.2.1
    unfold prefL
    split
    · simp
    · simp; omega
theorem match_t (l : List UInt8) (hl : l.length ≤ 100000) (ps : List GP) (hps : ps.length ≤ 200) (hok : okGP ps) (R : Nat) (w : World) (hT : UT w) (hG : GlobW w R ps) :
    Calls Tryz.prog 22 #[.pointer (some ⟨R, 0, none⟩), .string (strOf l)] w fun e w' => e = .returned (.bool (matchT ps l)) ∧ Below w.heap.size w w' := by
  cases hv : Lib.validD l with
  | false => rw [matchT_bad ps l hv]; exact match_bad l (by omega) hv R w hT
  | true =>
    obtain ⟨rs, hs, rfl⟩ := signs_ex l hv
    rw [matchT_enc ps rs hs]
    exact match_w rs hs (by have := encAll_len rs; omega) ps hps hok R w hT hG
end Go.Proofs.YtjeccmmhmdgdgaaGreatDoor
