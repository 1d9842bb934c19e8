/- A cursor on the bytes of right hits: plain. -/
import Derived.Test.YtjigaoclngfcaaaPoDs
import Derived.Test.YtjigaoclngfcaaaPoOp
namespace Go.Proofs.Ytjigaoclngfcaaa
set_option maxRecDepth 100000

theorem upI_len : ∀ (xs : List Int) (a lim : Int), upI a lim xs = true → a < lim → (xs.length : Int) ≤ lim - 1 - a
  | [], a, lim, _, h => by simp only [List.length_nil]; omega
  | n :: t, a, lim, h, _ => by
    obtain ⟨h1, h2, h3⟩ := upI_some h
    have := upI_len t n lim h3 h2
    simp only [List.length_cons]
    omega
/-- What is ahead: nothing, or a number that was told. -/
def ah (a : Int) (d : Nat) : Prop := a = d ∨ (a = -1 ∧ d = 0)
theorem ah_df {a n : Int} {d : Nat} {lim : Int} (h : ah a d) (k : a < n) (hl : n < lim) (hL : lim ≤ 65536) : df n d = n.toNat - d ∧ d ≤ n.toNat ∧ (n.toNat : Int) = n ∧ n.toNat - d ≤ 65536 ∧ ((n.toNat - d : Nat) : Int) < lim := by
  have : df n d = (n - d).toNat := df_eq n d (by rcases h with h | h <;> omega) (by rcases h with h | h <;> omega)
  rcases h with h | h <;> exact ⟨by omega, by omega, by omega, by omega, by omega⟩
theorem plP_enc : ∀ (xs : List Int) (a : Int) (p : Nat) (more : B8'), upI a 65536 xs = true → ah a p → plP xs.length p (eAt p xs ++ more) = some (xs.map Int.toNat, more)
  | [], _, _, _, _, _ => rfl
  | n :: t, a, p, more, h, k => by
    obtain ⟨h1, h2, h3⟩ := upI_some h
    obtain ⟨e1, e2, e3, e4, _⟩ := ah_df k h1 h2 (Int.le_refl _)
    have ih := plP_enc t n n.toNat more h3 (.inl e3.symm)
    rw [e3] at ih
    rw [List.length_cons, plP, eAt, List.append_assoc, e1, rdN_enc _ _ _ e4 (by omega)]
    simp only [Option.bind_some]
    rw [show p + (n.toNat - p) = n.toNat by omega, ih]
    rfl
def toHN (h : HI) : HN := (h.1.toNat, h.2.map Int.toNat)
theorem toHI_toHN {a : Int} {h : HI} (ha : -1 ≤ a) (k : hitOk a h = true) : toHI (toHN h) = h := by
  simp only [hitOk, Bool.and_eq_true, decide_eq_true_eq] at k
  obtain ⟨k1, _, _, k4⟩ := k
  obtain ⟨d, xs⟩ := h
  unfold toHI toHN
  simp only [Prod.mk.injEq, List.map_map]
  refine ⟨by simp only at k1; omega, ?_⟩
  conv => rhs; rw [← List.map_id xs]
  refine List.map_congr_left fun x hx => ?_
  have := upI_bound xs _ _ k4 x hx
  show ((x.toNat : Nat) : Int) = x
  omega
theorem hitP_enc (h : HI) (a : Int) (d : Nat) (more : B8') (k : hitOk a h = true) (hd : ah a d) : hitP (eHit d h ++ more) d = some (toHN h, more) ∧ ((toHN h).1 : Int) = h.1 := by
  simp only [hitOk, Bool.and_eq_true, decide_eq_true_eq] at k
  obtain ⟨k1, k2, _, k4⟩ := k
  obtain ⟨e1, e2, e3, _, e5⟩ := ah_df hd k1 k2 (by decide)
  have hl := upI_len h.2 _ _ k4 (by decide)
  have ih := plP_enc h.2 (-1) 0 more k4 (.inr ⟨rfl, rfl⟩)
  refine ⟨?_, e3⟩
  unfold hitP eHit
  rw [List.append_assoc, List.append_assoc, e1, rdN_enc _ _ _ (by omega) (by omega)]
  simp only [Option.bind_some]
  rw [rdN_enc _ _ _ (by omega) (by omega)]
  simp only [Option.bind_some]
  rw [show eAt 0 h.2 = eAt ((0 : Nat) : Int) h.2 from rfl, ih]
  simp only [Option.map_some, toHN]
  rw [show d + (h.1.toNat - d) = h.1.toNat by omega]
/-- The blocks, from the first on. -/
def BL (hs : List HI) : List (List HI) := (List.range (nbl hs.length)).map (blk hs)
theorem BL_cons (hs : List HI) (h : hs ≠ []) : BL hs = hs.take 4 :: BL (hs.drop 4) := by
  have hp := List.length_pos_iff.2 h
  unfold BL
  rw [show nbl hs.length = nbl (hs.drop 4).length + 1 by simp only [nbl, List.length_drop]; omega, List.range_succ_eq_map, List.map_cons, List.map_map]
  rw [List.cons.injEq]
  refine ⟨by simp [blk], List.map_congr_left fun j _ => ?_⟩
  show ((hs.drop (4 * (j + 1))).take 4) = (((hs.drop 4).drop (4 * j)).take 4)
  rw [List.drop_drop, show 4 + 4 * j = 4 * (j + 1) by omega]
theorem rgt_app : ∀ (xs ys : List HI) (a : Int), rgt a (xs ++ ys) = (rgt a xs && rgt (docOf a xs) ys)
  | [], ys, a => by simp [rgt, docOf]
  | x :: t, ys, a => by
    rw [List.cons_append, rgt, rgt, rgt_app t ys x.1, Bool.and_assoc]
    congr 3
    unfold docOf
    cases t with
    | nil => rfl
    | cons y u => simp [List.getLast?_cons]
theorem rgt_doc : ∀ (xs : List HI) (a : Int), rgt a xs = true → xs ≠ [] → a < docOf a xs ∧ docOf a xs < 1000 ∧ ∀ h ∈ xs, h.1 ≤ docOf a xs
  | [], _, _, h => absurd rfl h
  | x :: t, a, k, _ => by
    obtain ⟨k1, k2, _, _, k5⟩ := rgt_some k
    have e : docOf a (x :: t) = docOf x.1 t := by
      unfold docOf
      cases t with
      | nil => rfl
      | cons y u => simp [List.getLast?_cons]
    rw [e]
    by_cases ht : t = []
    · subst ht
      exact ⟨k1, k2, fun h hh => by simp only [List.mem_singleton] at hh; subst hh; exact Int.le_refl _⟩
    · obtain ⟨g1, g2, g3⟩ := rgt_doc t x.1 k5 ht
      exact ⟨by omega, g2, fun h hh => by
        rcases List.mem_cons.1 hh with rfl | hh
        · omega
        · exact g3 h hh⟩
theorem docOf_ne (a b : Int) (xs : List HI) (h : xs ≠ []) : docOf a xs = docOf b xs := by
  unfold docOf
  cases xs with
  | nil => exact absurd rfl h
  | cons y u => simp [List.getLast?_cons]
theorem rgt_at : ∀ (xs : List HI) (a : Int), rgt a xs = true → ∀ h ∈ xs, a < h.1 ∧ h.1 < 1000 ∧ (h.2.length ≤ 65536)
  | [], _, _, h, hh => by cases hh
  | x :: t, a, k, h, hh => by
    obtain ⟨k1, k2, _, k4, k5⟩ := rgt_some k
    have hl := upI_len x.2 _ _ k4 (by decide)
    rcases List.mem_cons.1 hh with rfl | hh
    · exact ⟨k1, k2, by omega⟩
    · obtain ⟨g1, g2, g3⟩ := rgt_at t x.1 k5 h hh
      exact ⟨by omega, g2, g3⟩
/-- Such a cursor: of the block it came to cur is left, behind it rest; a is the last document that it told or passed. -/
structure RI (more : B8') (s : PS) (a : Int) (cur rest : List HI) : Prop where
  up : rgt a (cur ++ rest) = true
  he : s.he = cur.length
  kb : cur ≠ [] → s.kb = eBl s.dc cur ∧ ah a s.dc
  bb : s.bb = some (eBs s.la (BL rest) ++ more)
  bh : s.bh = rest.length
  la : ah (docOf a cur) s.la
  ge : -1 ≤ a
theorem RI.opened (hs : List HI) (more : B8') (h : rgt (-1) hs = true) : RI more (openP (eP hs ++ more)) (-1) [] hs ∧ (openP (eP hs ++ more)).sk = 0 := by
  have hl : hs.length ≤ 1000 := by
    have e := rgt_eq hs (-1)
    rw [h] at e
    have e' := (Bool.and_eq_true_iff.1 e.symm).2
    have := upI_len _ _ _ e' (by decide)
    rw [List.length_map] at this
    omega
  unfold openP eP
  rw [List.append_assoc, rdN_enc _ _ _ hl (by omega)]
  exact ⟨⟨h, rfl, fun k => absurd rfl k, rfl, rfl, .inr ⟨rfl, rfl⟩, Int.le_refl _⟩, rfl⟩
/-- The next block is passed over, or come to. -/
theorem RI.enter {more : B8'} {s : PS} {a : Int} {rest : List HI} (h : RI more s a [] rest) (hr : rest ≠ []) (doc : Int) (f : Nat) :
    (doc ≤ docOf a (rest.take 4) ∧ ∃ s', enterP doc (f + 1) s = (true, s') ∧ RI more s' a (rest.take 4) (rest.drop 4) ∧ s'.sk = s.sk) ∨
    (docOf a (rest.take 4) < doc ∧ ∃ s', enterP doc (f + 1) s = enterP doc f s' ∧ RI more s' (docOf a (rest.take 4)) [] (rest.drop 4) ∧ s'.sk = s.sk + 1) := by
  have hp := List.length_pos_iff.2 hr
  have hbn : rest.take 4 ≠ [] := fun e => by have := congrArg List.length e; rw [List.length_take, List.length_nil] at this; omega
  have hup : rgt a (rest.take 4 ++ rest.drop 4) = true := by rw [List.take_append_drop]; exact h.up
  have hup2 := hup
  rw [rgt_app, Bool.and_eq_true] at hup2
  obtain ⟨u1, u2⟩ := hup2
  obtain ⟨d1, d2, d3⟩ := rgt_doc _ _ u1 hbn
  have hla : ah a s.la := h.la
  obtain ⟨e1, e2, e3, _, e5⟩ := ah_df hla d1 d2 (by decide)
  have hbl : (eBl s.la (rest.take 4)).length < 18446744073709551616 := by
    have g := eBl_le 65536 (by decide) (rest.take 4) s.la fun x hx => (rgt_at _ _ u1 x hx).2.2
    have : (rest.take 4).length ≤ 4 := by rw [List.length_take]; omega
    have g2 := Nat.mul_le_mul_right (20 + 10 * 65536) this
    omega
  have hd0 : docOf 0 (rest.take 4) = docOf a (rest.take 4) := docOf_ne _ _ _ hbn
  have hbb : s.bb = some (enc ((docOf a (rest.take 4)).toNat - s.la) ++ (enc (eBl s.la (rest.take 4)).length ++ (eBl s.la (rest.take 4) ++ (eBs (docOf a (rest.take 4)) (BL (rest.drop 4)) ++ more)))) := by
    rw [h.bb, BL_cons rest hr, eBs, eB1, hd0, e1]
    simp only [List.append_assoc]
  have hk := enterP_at doc f s _ _ _ _ _ (by rw [h.bh]; omega) hbb (rdN_enc _ _ _ (by omega) (by omega)) (rdT_enc _ _ hbl)
  have hx : s.la + ((docOf a (rest.take 4)).toNat - s.la) = (docOf a (rest.take 4)).toNat := by omega
  have hm : min 4 s.bh = (rest.take 4).length := by rw [h.bh, List.length_take]
  rw [hx, e3] at hk
  by_cases hd : doc ≤ docOf a (rest.take 4)
  · rw [if_pos hd] at hk
    refine .inl ⟨hd, _, hk, ⟨hup, hm, fun _ => ⟨rfl, hla⟩, by rw [e3], ?_, .inl e3.symm, h.ge⟩, rfl⟩
    simp only [h.bh, List.length_drop]
    omega
  · rw [if_neg hd] at hk
    refine .inr ⟨by omega, _, hk, ⟨u2, ?_, fun k => absurd rfl k, by rw [e3], ?_, .inl e3.symm, by have := h.ge; omega⟩, rfl⟩
    · exact h.he
    · simp only [h.bh, List.length_drop]
      omega
/-- The next hit of a block. -/
theorem RI.look {more : B8'} {s : PS} {a : Int} {x : HI} {cur rest : List HI} (h : RI more s a (x :: cur) rest) :
    ∃ s', lookP s = (some (toHN x), s') ∧ RI more s' x.1 cur rest ∧ s'.sk = s.sk ∧ ((toHN x).1 : Int) = x.1 := by
  obtain ⟨k1, k2⟩ := h.kb (by simp)
  have hu := h.up
  rw [List.cons_append, rgt, Bool.and_eq_true] at hu
  obtain ⟨u1, u2⟩ := hu
  obtain ⟨g1, g2⟩ := hitP_enc x a s.dc (eBl x.1 cur) u1 k2
  rw [eBl] at k1
  unfold lookP
  rw [k1, g1]
  refine ⟨_, rfl, ⟨u2, ?_, fun _ => ⟨by simp only [g2], .inl g2.symm⟩, h.bb, h.bh, ?_, by have := (rgt_at [x] a (by rw [rgt, Bool.and_eq_true]; exact ⟨u1, rfl⟩) x (by simp)).1; have := h.ge; omega⟩, rfl, g2⟩
  · simp only [h.he, List.length_cons]
    omega
  · have hl := h.la
    rw [show docOf a (x :: cur) = docOf x.1 cur by
      unfold docOf
      cases cur with
      | nil => rfl
      | cons y u => simp [List.getLast?_cons]] at hl
    exact hl
/-- How many blocks are passed over, all of whose documents are below one. -/
def skp (doc : Int) : List (List HI) → Nat
  | [] => 0
  | b :: t => if docOf 0 b < doc then skp doc t + 1 else 0
theorem RI.enters {more : B8'} (doc : Int) : ∀ (f : Nat) (s : PS) (a : Int) (rest : List HI), RI more s a [] rest → s.bh ≤ f →
    ((∀ h ∈ rest, h.1 < doc) ∧ ∃ s' a', enterP doc f s = (false, s') ∧ RI more s' a' [] [] ∧ s'.sk = s.sk + skp doc (BL rest)) ∨
    ∃ pre rest1 s' a', rest = pre ++ rest1 ∧ rest1 ≠ [] ∧ (∀ h ∈ pre, h.1 < doc) ∧ doc ≤ docOf a' (rest1.take 4) ∧ enterP doc f s = (true, s') ∧ RI more s' a' (rest1.take 4) (rest1.drop 4) ∧ s'.sk = s.sk + skp doc (BL rest)
  | f, s, a, [], h, _ => .inl ⟨(fun h hh => by cases hh), s, a, enterP_zero doc f s h.bh, h, rfl⟩
  | 0, s, a, x :: t, h, hf => absurd hf (by rw [h.bh, List.length_cons]; omega)
  | f + 1, s, a, x :: t, h, hf => by
    have hr : x :: t ≠ [] := by simp
    have hbn : (x :: t).take 4 ≠ [] := by simp
    have hd0 : docOf 0 ((x :: t).take 4) = docOf a ((x :: t).take 4) := docOf_ne _ _ _ hbn
    have hb := h.bh
    rcases h.enter hr doc f with ⟨hd, s', e, hR, hs⟩ | ⟨hd, s', e, hR, hs⟩
    · refine .inr ⟨[], x :: t, s', a, rfl, hr, (fun h hh => by cases hh), hd, e, hR, ?_⟩
      rw [BL_cons _ hr, skp, if_neg (by omega), hs]
      rfl
    · have hup := h.up
      rw [List.nil_append, ← List.take_append_drop 4 (x :: t), rgt_app, Bool.and_eq_true] at hup
      have hall : ∀ h ∈ (x :: t).take 4, h.1 < doc := fun h hh => by have := (rgt_doc _ _ hup.1 hbn).2.2 h hh; omega
      have hbh := hR.bh
      rw [List.length_drop, List.length_cons] at hbh
      rw [List.length_cons] at hb
      have hsk : skp doc (BL (x :: t)) = skp doc (BL ((x :: t).drop 4)) + 1 := by rw [BL_cons _ hr, skp, if_pos (by omega)]
      rcases RI.enters doc f s' _ _ hR (by omega) with ⟨g1, s2, a2, g2, g3, g4⟩ | ⟨pre, r1, s2, a2, g0, g1, g2, g3, g4, g5, g6⟩
      · refine .inl ⟨fun h hh => ?_, s2, a2, by rw [e, g2], g3, by rw [hsk]; omega⟩
        rw [← List.take_append_drop 4 (x :: t)] at hh
        rcases List.mem_append.1 hh with hh | hh
        · exact hall h hh
        · exact g1 h hh
      · refine .inr ⟨(x :: t).take 4 ++ pre, r1, s2, a2, by rw [List.append_assoc, ← g0, List.take_append_drop], g1, fun h hh => ?_, g3, by rw [e, g4], g5, by rw [hsk]; omega⟩
        rcases List.mem_append.1 hh with hh | hh
        · exact hall h hh
        · exact g2 h hh
/-- Whether all of a block is below a document. -/
def bel (doc : Int) (cur : List HI) : Bool := cur.all fun h => decide (h.1 < doc)
theorem bel_last (doc a : Int) : ∀ (xs : List HI), doc ≤ docOf a xs → xs ≠ [] → bel doc xs = false := by
  intro xs h hx
  refine Bool.eq_false_iff.2 fun k => ?_
  unfold bel at k
  rw [List.all_eq_true] at k
  unfold docOf at h
  rw [List.getLast?_map, List.getLast?_eq_some_getLast hx] at h
  have := of_decide_eq_true (k _ (List.getLast_mem hx))
  simp only [Option.map_some, Option.getD_some] at h
  omega
theorem RI.seek {more : B8'} (doc : Int) : ∀ (f : Nat) (s : PS) (a : Int) (cur rest : List HI), RI more s a cur rest → s.he + s.bh + 1 ≤ f →
    ((∀ h ∈ cur ++ rest, h.1 < doc) ∧ ∃ s' a', seekP doc f s = (none, s') ∧ RI more s' a' [] [] ∧ s'.sk = s.sk + if bel doc cur then skp doc (BL rest) else 0) ∨
    ∃ pre x cur' rest' s', cur ++ rest = pre ++ x :: (cur' ++ rest') ∧ (∀ h ∈ pre, h.1 < doc) ∧ doc ≤ x.1 ∧ seekP doc f s = (some (toHN x), s') ∧ RI more s' x.1 cur' rest' ∧ s'.sk = s.sk + if bel doc cur then skp doc (BL rest) else 0
  | 0, _, _, _, _, _, hf => absurd hf (by omega)
  | f + 1, s, a, x :: c, rest, h, hf => by
    obtain ⟨s1, e1, hR, hs, hx⟩ := h.look
    have hhe := h.he
    have hbh := h.bh
    have hh1 := hR.he
    have hb1 := hR.bh
    rw [List.length_cons] at hhe
    rw [seekP_here doc f s (by omega), e1]
    simp only [Option.elim_some, hx]
    by_cases hd : doc ≤ x.1
    · rw [if_pos hd]
      refine .inr ⟨[], x, c, rest, s1, rfl, (fun h hh => by cases hh), hd, rfl, hR, ?_⟩
      rw [show bel doc (x :: c) = false by unfold bel; rw [List.all_cons, decide_eq_false (by omega), Bool.false_and]]
      simpa using hs
    · rw [if_neg hd]
      have hbe : bel doc (x :: c) = bel doc c := by unfold bel; rw [List.all_cons, decide_eq_true (by omega), Bool.true_and]
      rw [hbe, ← hs]
      rcases RI.seek doc f s1 x.1 c rest hR (by omega) with ⟨g1, g2⟩ | ⟨pre, y, c2, r2, s2, g0, g1, g2⟩
      · refine .inl ⟨fun h hh => ?_, g2⟩
        rcases List.mem_cons.1 hh with rfl | hh
        · omega
        · exact g1 h hh
      · refine .inr ⟨x :: pre, y, c2, r2, s2, by rw [List.cons_append, g0, List.cons_append], fun h hh => ?_, g2⟩
        rcases List.mem_cons.1 hh with rfl | hh
        · omega
        · exact g1 h hh
  | f + 1, s, a, [], rest, h, hf => by
    have hhe : s.he = 0 := h.he
    have hbh := h.bh
    rw [show bel doc [] = true from rfl, if_pos rfl]
    rcases RI.enters doc s.bh s a rest h (Nat.le_refl _) with ⟨g1, s2, a2, g2, g3, g4⟩ | ⟨pre, r1, s2, a2, g0, g1, g2, g3, g4, g5, g6⟩
    · exact .inl ⟨g1, s2, a2, by rw [seekP_out doc f s hhe (by rw [g2]), g2], g3, g4⟩
    · obtain ⟨x, t, rfl⟩ : ∃ x t, r1 = x :: t := by cases r1 with | nil => exact absurd rfl g1 | cons x t => exact ⟨x, t, rfl⟩
      have hlst := bel_last doc a2 _ g3 (by simp)
      rw [show (x :: t).take 4 = x :: t.take 3 from rfl, show (x :: t).drop 4 = t.drop 3 from rfl] at g5
      rw [show (x :: t).take 4 = x :: t.take 3 from rfl] at hlst
      obtain ⟨s1, e1, hR, hs, hx⟩ := g5.look
      have hh1 := hR.he
      have hb1 := hR.bh
      have hl := congrArg List.length g0
      rw [List.length_append, List.length_cons] at hl
      rw [List.length_take] at hh1
      rw [List.length_drop] at hb1
      rw [seekP_in doc f s hhe (by rw [g4]), g4, e1]
      simp only [Option.elim_some, hx]
      by_cases hd : doc ≤ x.1
      · rw [if_pos hd]
        exact .inr ⟨pre, x, t.take 3, t.drop 3, s1, by rw [List.take_append_drop]; exact g0, g2, hd, rfl, hR, by omega⟩
      · rw [if_neg hd]
        have hbe : bel doc (t.take 3) = false := by
          unfold bel at hlst ⊢
          rw [List.all_cons, decide_eq_true (by omega), Bool.true_and] at hlst
          exact hlst
        rcases RI.seek doc f s1 x.1 _ _ hR (by omega) with ⟨k1, s3, a3, k2, k3, k4⟩ | ⟨pre3, y, c2, r2, s3, k0, k1, k2, k3, k4, k5⟩
        · rw [hbe] at k4
          refine .inl ⟨fun h hh => ?_, s3, a3, k2, k3, by simp only [Bool.false_eq_true, if_false] at k4; omega⟩
          rw [List.nil_append, g0] at hh
          rw [List.take_append_drop] at k1
          rcases List.mem_append.1 hh with hh | hh
          · exact g2 h hh
          · rcases List.mem_cons.1 hh with rfl | hh
            · omega
            · exact k1 h hh
        · rw [hbe] at k5
          rw [List.take_append_drop] at k0
          refine .inr ⟨pre ++ x :: pre3, y, c2, r2, s3, by rw [List.nil_append, g0, k0, List.append_assoc]; rfl, fun h hh => ?_, k2, k3, k4, by simp only [Bool.false_eq_true, if_false] at k5; omega⟩
          rcases List.mem_append.1 hh with hh | hh
          · exact g2 h hh
          · rcases List.mem_cons.1 hh with rfl | hh
            · omega
            · exact k1 h hh
theorem RI.run {more : B8'} : ∀ (f : Nat) (s : PS) (a : Int) (cur rest : List HI), RI more s a cur rest → s.he + s.bh ≤ f → (runP f s).map toHI = cur ++ rest
  | f, s, a, cur, rest, h, hf => by
    have hall := rgt_at _ _ h.up
    have hge := h.ge
    have hs := RI.seek 0 (s.he + s.bh + 1) s a cur rest h (Nat.le_refl _)
    rcases hs with ⟨g1, s2, a2, g2, _⟩ | ⟨pre, x, c2, r2, s2, g0, g1, g2, g3, g4, _⟩
    · rw [runP_none f s (by unfold nextP; rw [g2])]
      cases hc : cur ++ rest with
      | nil => rfl
      | cons y t =>
        rw [hc] at g1 hall
        have := g1 y (by simp)
        have := (hall y (by simp)).1
        omega
    · have hpre : pre = [] := by
        cases pre with
        | nil => rfl
        | cons y t =>
          have h1 := g1 y (by simp)
          have h2 := (hall y (by rw [g0]; simp)).1
          omega
      subst hpre
      have hl := congrArg List.length g0
      rw [List.nil_append] at g0
      simp only [List.length_append, List.length_cons, List.length_nil] at hl
      have hh := h.he
      have hb := h.bh
      have hh2 := g4.he
      have hb2 := g4.bh
      obtain ⟨f', rfl⟩ : ∃ f', f = f' + 1 := ⟨f - 1, by omega⟩
      have hn : nextP s = (some (toHN x), s2) := g3
      have ih := RI.run f' s2 x.1 c2 r2 g4 (by omega)
      rw [runP_some f' s (toHN x) (by rw [hn]), hn, List.map_cons, ih, g0]
      have hu := h.up
      rw [g0, rgt, Bool.and_eq_true] at hu
      rw [toHI_toHN hge hu.1]
  termination_by f => f
end Go.Proofs.Ytjigaoclngfcaaa
