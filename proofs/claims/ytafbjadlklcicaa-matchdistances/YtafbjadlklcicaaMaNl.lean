/- Matches that are turned one by one, in memory; and plain. -/
import Derived.Test.YtafbjadlklcicaaMaTu
namespace Go.Proofs.Ytafbjadlklcicaa
open Go.RowKit
set_option maxRecDepth 100000

/-! plain -/
def szM (m : Mt) : Nat := m.1.length + m.2.length
def turns (m : Mt) : List Mt := m.1.map (fun s => (([] : List Sp), [s])) ++ m.2.map (fun s => ([s], []))
theorem turns_len (m : Mt) : (turns m).length = szM m := by simp [turns, szM]
theorem turns_out (m : Mt) (k : Nat) (h : k < m.1.length) : (turns m)[k]? = some ([], [m.1[k]]) := by
  unfold turns
  rw [List.getElem?_append_left (by simpa using h), List.getElem?_map, List.getElem?_eq_getElem h]
  rfl
theorem turns_in (m : Mt) (k : Nat) (h : k < m.2.length) : (turns m)[m.1.length + k]? = some ([m.2[k]], []) := by
  unfold turns
  rw [List.getElem?_append_right (by simp), List.length_map, Nat.add_sub_cancel_left, List.getElem?_map, List.getElem?_eq_getElem h]
  rfl
theorem snoc_ind {P : List Mt → Prop} (h0 : P []) (h1 : ∀ t m, P t → P (t ++ [m])) (ms : List Mt) : P ms := by
  have h : ∀ l : List Mt, P l.reverse := fun l => by
    induction l with
    | nil => exact h0
    | cons x u ih => rw [List.reverse_cons]; exact h1 _ _ ih
  have := h ms.reverse
  rwa [List.reverse_reverse] at this
def notL (ms : List Mt) : List Mt := ms.foldl (fun acc m => andL acc (turns m)) [([], [])]
theorem notL_snoc (ms : List Mt) (m : Mt) : notL (ms ++ [m]) = andL (notL ms) (turns m) := by unfold notL; rw [List.foldl_append]; rfl
def PW (ms : List Mt) : Nat := ms.foldl (fun a m => a * szM m) 1
theorem PW_snoc (ms : List Mt) (m : Mt) : PW (ms ++ [m]) = PW ms * szM m := by unfold PW; rw [List.foldl_append]; rfl
theorem notL_len (ms : List Mt) : (notL ms).length = PW ms := by
  refine snoc_ind (P := fun ms => (notL ms).length = PW ms) rfl (fun t m ih => ?_) ms
  rw [notL_snoc, PW_snoc, andL_len, ih, turns_len]
theorem andL_at : ∀ (acc ts : List Mt) (q r : Nat) (hq : q < acc.length) (hr : r < ts.length), (andL acc ts)[q * ts.length + r]? = some (joinM acc[q] ts[r])
  | [], _, q, _, h, _ => absurd h (Nat.not_lt_zero _)
  | x :: t, ts, 0, r, _, hr => by
    have e : andL (x :: t) ts = ts.map (joinM x) ++ andL t ts := rfl
    rw [e, List.getElem?_append_left (by rw [List.length_map]; omega), Nat.zero_mul, Nat.zero_add, List.getElem?_map, List.getElem?_eq_getElem hr]
    rfl
  | x :: t, ts, q + 1, r, hq, hr => by
    have e : andL (x :: t) ts = ts.map (joinM x) ++ andL t ts := rfl
    have ih := andL_at t ts q r (by simpa using hq) hr
    rw [e, List.getElem?_append_right (by rw [List.length_map, Nat.add_mul]; omega), List.length_map, show (q + 1) * ts.length + r - ts.length = q * ts.length + r by rw [Nat.add_mul]; omega]
    exact ih
/-- How many ways there are; none: too many. -/
def waysF (a : Nat) : List Mt → Option Nat
  | [] => some a
  | m :: t => if a * szM m ≤ 400 then waysF (a * szM m) t else none
theorem PW_cons (m : Mt) (t : List Mt) : PW (m :: t) = szM m * PW t := by
  have h : ∀ (t : List Mt) (a b : Nat), t.foldl (fun a m => a * szM m) (a * b) = a * t.foldl (fun a m => a * szM m) b := fun t => by
    induction t with
    | nil => intro a b; rfl
    | cons x u ih => intro a b; rw [List.foldl_cons, List.foldl_cons, Nat.mul_assoc, ih]
  unfold PW
  rw [List.foldl_cons, Nat.one_mul]
  have := h t (szM m) 1
  rwa [Nat.mul_one] at this
theorem waysF_some : ∀ (ms : List Mt) (a W : Nat), waysF a ms = some W → W = a * PW ms
  | [], a, W, h => by
    simp only [waysF, Option.some.injEq] at h
    rw [← h, show PW [] = 1 from rfl, Nat.mul_one]
  | m :: t, a, W, h => by
    rw [waysF] at h
    by_cases hc : a * szM m ≤ 400
    · rw [if_pos hc] at h
      rw [waysF_some t _ _ h, PW_cons, Nat.mul_assoc]
    · rw [if_neg hc] at h
      cases h
theorem waysF_le : ∀ (ms : List Mt) (a W : Nat), a ≤ 400 → waysF a ms = some W → W ≤ 400
  | [], a, W, ha, h => by
    simp only [waysF, Option.some.injEq] at h
    omega
  | m :: t, a, W, ha, h => by
    rw [waysF] at h
    by_cases hc : a * szM m ≤ 400
    · rw [if_pos hc] at h
      exact waysF_le t _ _ hc h
    · rw [if_neg hc] at h
      cases h
/-- What an element is when so many matches were turned. -/
def curM (ms : List Mt) (W k i : Nat) : Mt := (notL (ms.take k)).getD (i / (W / PW (ms.take k))) ([], [])
theorem cur_zero (ms : List Mt) (W i : Nat) (h : i < W) : curM ms W 0 i = ([], []) := by
  unfold curM
  rw [List.take_zero, show PW [] = 1 from rfl, Nat.div_one, Nat.div_eq_of_lt h]
  rfl
theorem PW_take (ms : List Mt) (k : Nat) : PW ms = PW (ms.take k) * PW (ms.drop k) := by
  have h : ∀ (a b : List Mt), PW (a ++ b) = PW a * PW b := fun a b => by
    refine snoc_ind (P := fun b => PW (a ++ b) = PW a * PW b) (by rw [List.append_nil, show PW [] = 1 from rfl, Nat.mul_one]) (fun t m ih => ?_) b
    rw [← List.append_assoc, PW_snoc, PW_snoc, ih, Nat.mul_assoc]
  conv => lhs; rw [← List.take_append_drop k ms]
  exact h _ _
theorem each_step (ms : List Mt) (W k : Nat) (hW : W = PW ms) (h0 : 0 < W) (hk : k < ms.length) : 0 < szM ms[k] ∧ 0 < W / PW (ms.take (k + 1)) ∧ W / PW (ms.take k) = W / PW (ms.take (k + 1)) * szM ms[k] ∧ W = W / PW (ms.take (k + 1)) * PW (ms.take (k + 1)) := by
  have e := PW_take ms (k + 1)
  have e2 : PW (ms.take (k + 1)) = PW (ms.take k) * szM ms[k] := by rw [List.take_succ_eq_append_getElem hk, PW_snoc]
  have hp : 0 < PW (ms.take (k + 1)) := Nat.pos_of_ne_zero fun h => by rw [h, Nat.zero_mul] at e; omega
  have hd : 0 < PW (ms.drop (k + 1)) := Nat.pos_of_ne_zero fun h => by rw [h, Nat.mul_zero] at e; omega
  have hs : 0 < szM ms[k] := Nat.pos_of_ne_zero fun h => by rw [h, Nat.mul_zero] at e2; omega
  have hpk : 0 < PW (ms.take k) := Nat.pos_of_ne_zero fun h => by rw [h, Nat.zero_mul] at e2; omega
  have w1 : W / PW (ms.take (k + 1)) = PW (ms.drop (k + 1)) := by rw [hW, e, Nat.mul_div_cancel_left _ hp]
  have w2 : W / PW (ms.take k) = szM ms[k] * PW (ms.drop (k + 1)) := by rw [hW, e, e2, Nat.mul_assoc, Nat.mul_div_cancel_left _ hpk]
  refine ⟨hs, by omega, by rw [w1, w2, Nat.mul_comm], ?_⟩
  rw [w1, Nat.mul_comm, ← e, hW]
theorem cur_step (ms : List Mt) (W k i : Nat) (t : Mt) (hW : W = PW ms) (h0 : 0 < W) (hk : k < ms.length) (hi : i < W) (ht : (turns ms[k])[i / (W / PW (ms.take (k + 1))) % szM ms[k]]? = some t) :
    curM ms W (k + 1) i = joinM (curM ms W k i) t := by
  obtain ⟨hs, hE, e1, e2⟩ := each_step ms W k hW h0 hk
  have eP : PW (ms.take (k + 1)) = PW (ms.take k) * szM ms[k] := by rw [List.take_succ_eq_append_getElem hk, PW_snoc]
  have eN : notL (ms.take (k + 1)) = andL (notL (ms.take k)) (turns ms[k]) := by rw [List.take_succ_eq_append_getElem hk, notL_snoc]
  unfold curM
  rw [eN, e1]
  obtain ⟨E, hEe⟩ : ∃ E, E = W / PW (ms.take (k + 1)) := ⟨_, rfl⟩
  rw [← hEe] at ht hE e2 ⊢
  have hq : i / E < PW (ms.take k) * szM ms[k] := by
    rw [← eP]
    exact (Nat.div_lt_iff_lt_mul hE).2 (by rw [Nat.mul_comm, ← e2]; exact hi)
  have hqq : i / E / szM ms[k] < (notL (ms.take k)).length := by
    rw [notL_len]
    exact (Nat.div_lt_iff_lt_mul hs).2 hq
  obtain ⟨hr, htt⟩ := List.getElem?_eq_some_iff.1 ht
  have hat := andL_at (notL (ms.take k)) (turns ms[k]) (i / E / szM ms[k]) (i / E % szM ms[k]) hqq hr
  rw [turns_len, Nat.mul_comm, Nat.div_add_mod, htt] at hat
  rw [List.getD_eq_getElem?_getD, hat, ← Nat.div_div_eq_div_mul, List.getD_eq_getElem?_getD, List.getElem?_eq_getElem hqq]
  rfl
theorem cur_all (ms : List Mt) (W : Nat) (hW : W = PW ms) (h0 : 0 < W) (i : Nat) (hi : i < (notL ms).length) : curM ms W ms.length i = (notL ms)[i] := by
  have e : W / PW ms = 1 := by rw [← hW]; exact Nat.div_self h0
  unfold curM
  rw [List.take_length, e, Nat.div_one, List.getD_eq_getElem?_getD, List.getElem?_eq_getElem hi]
  rfl
theorem turns_one (m : Mt) : ∀ t ∈ turns m, t.1.length + t.2.length = 1 := fun t ht => by
  unfold turns at ht
  rcases List.mem_append.1 ht with h | h
  · obtain ⟨s, _, rfl⟩ := List.mem_map.1 h; rfl
  · obtain ⟨s, _, rfl⟩ := List.mem_map.1 h; rfl
theorem notL_size (ms : List Mt) : ∀ x ∈ notL ms, x.1.length + x.2.length = ms.length := by
  refine snoc_ind (P := fun ms => ∀ x ∈ notL ms, x.1.length + x.2.length = ms.length) (fun x hx => ?_) (fun t m ih x hx => ?_) ms
  · rw [List.mem_singleton.1 hx]; rfl
  · rw [notL_snoc] at hx
    obtain ⟨a, ha, hx⟩ := List.mem_flatMap.1 hx
    obtain ⟨b, hb, rfl⟩ := List.mem_map.1 hx
    have h1 := ih a ha
    have h2 := turns_one m b hb
    simp only [joinM, List.length_append, List.length_singleton]
    omega
theorem cur_size (ms : List Mt) (W k i : Nat) : (curM ms W k i).1.length ≤ k ∧ (curM ms W k i).2.length ≤ k := by
  unfold curM
  rw [List.getD_eq_getElem?_getD]
  cases h : (notL (ms.take k))[i / (W / PW (ms.take k))]? with
  | none => exact ⟨Nat.zero_le _, Nat.zero_le _⟩
  | some x =>
    have := notL_size (ms.take k) x (List.mem_of_getElem? h)
    rw [List.length_take] at this
    simp only [Option.getD_some]
    omega

/-! in memory -/
def rowF (f : Nat → Mt) (j : Nat) : List Sp := if j % 2 = 0 then (f (j / 2)).1 else (f (j / 2)).2
theorem own_at {w w' : World} {base : Nat} {t : TypeId} {k : Nat} {v : Value} {n : Nat} {xs : List Value} (h : w.ownsRow base t k v n xs) (hk : ∀ g, v.ownBlock = some g → g < w.heap.size → w'.heap[g]? = w.heap[g]?) : w'.ownsRow base t k v n xs := by
  refine ⟨h.1, ?_⟩
  rcases h.2 with h | ⟨g, cap, cur, hv, hg, hh, r⟩
  · exact .inl h
  · exact .inr ⟨g, cap, cur, hv, hg, (hk g (by rw [hv]; rfl) (row_lt hh)).trans hh, r⟩
/-- So many matches in block L, each slice in a block of its own; blocks that they avoid. -/
structure NL (G : Nat → Prop) (w0 w : World) (L W : Nat) (f : Nat → Mt) : Prop where
  kb : Below w0.heap.size w0 w
  hL : w0.heap.size ≤ L
  gL : G L
  gl : ∀ b, G b → b < w.heap.size
  fr : ∀ j, w.frozen? ⟨L, j, none⟩ = false
  ex : ∃ vs : Nat → Value, (∀ j, j < 2 * W → w.cell? ⟨L, j, none⟩ = some (vs j) ∧ w.ownsRow w0.heap.size 26 4 (vs j) (rowF f j).length (spCs (rowF f j)) ∧ ∀ b, (vs j).ownBlock = some b → ¬ G b) ∧
    ∀ i j b, i < 2 * W → j < 2 * W → (vs i).ownBlock = some b → (vs j).ownBlock = some b → i = j
theorem NL.below {G : Nat → Prop} {w0 w w' : World} {L W : Nat} {f : Nat → Mt} (h : NL G w0 w L W f) (hb : Below w.heap.size w w') : NL G w0 w' L W f := by
  obtain ⟨vs, h1, h2⟩ := h.ex
  have hl := h.gl L h.gL
  exact ⟨h.kb.trans (hb.mono h.kb.size), h.hL, h.gL, fun b g => Nat.lt_of_lt_of_le (h.gl b g) hb.size, fun j => (hb.frozen (p := ⟨L, j, none⟩) hl).trans (h.fr j), vs, fun j hj => ⟨(hb.cell (p := ⟨L, j, none⟩) hl).trans (h1 j hj).1, own_below (h1 j hj).2.1 hb, (h1 j hj).2.2⟩, h2⟩
theorem NL.fewer {G G' : Nat → Prop} {w0 w : World} {L W : Nat} {f : Nat → Mt} (h : NL G w0 w L W f) (hG : ∀ b, G' b → G b) (hL : G' L) : NL G' w0 w L W f := by
  obtain ⟨vs, h1, h2⟩ := h.ex
  exact ⟨h.kb, h.hL, hL, fun b g => h.gl b (hG b g), h.fr, vs, fun j hj => ⟨(h1 j hj).1, (h1 j hj).2.1, fun b e g => (h1 j hj).2.2 b e (hG b g)⟩, h2⟩
/-- A new block is avoided as well. -/
theorem NL.box {G : Nat → Prop} {w0 w : World} {L W : Nat} {f : Nat → Mt} (h : NL G w0 w L W f) (o : Obj) : NL (fun b => G b ∨ b = w.heap.size) w0 (w.alloc o) L W f := by
  have hb : Below w.heap.size w (w.alloc o) := (Below.refl _ _).alloc (Nat.le_refl _) _
  have h' := h.below hb
  obtain ⟨vs, h1, h2⟩ := h.ex
  obtain ⟨k1, k2, k3⟩ := And.intro h'.kb (And.intro h'.gl h'.fr)
  have hl := h.gl L h.gL
  refine ⟨k1, h.hL, .inl h.gL, fun b g => ?_, k3, vs, fun j hj => ⟨(hb.cell (p := ⟨L, j, none⟩) hl).trans (h1 j hj).1, own_below (h1 j hj).2.1 hb, fun b e g => ?_⟩, h2⟩
  · rcases g with g | rfl
    · exact k2 b g
    · simp
  · rcases g with g | rfl
    · exact (h1 j hj).2.2 b e g
    · obtain ⟨_, _, _, _, _, _, ho⟩ := own_form (h1 j hj).2.1
      have := (ho _ e).2
      omega
theorem NL.made (w : World) (W : Nat) (f : Nat → Mt) (hf : ∀ i, i < W → f i = ([], [])) (X : World) (hb : Below w.heap.size w X) (hL : w.heap.size < X.heap.size) (hc : ∀ j, j < 2 * W → X.cell? ⟨w.heap.size, j, none⟩ = some (.slice none 0 0)) (hfr : ∀ j, X.frozen? ⟨w.heap.size, j, none⟩ = false) : NL (fun b => b = w.heap.size) w X w.heap.size W f :=
  ⟨hb, Nat.le_refl _, rfl, fun b e => by rw [e]; exact hL, hfr, fun _ => .slice none 0 0, fun j hj => ⟨hc j hj, by
    have e : rowF f j = [] := by unfold rowF; rw [hf (j / 2) (by omega)]; split <;> rfl
    rw [e]
    exact ⟨⟨rfl, .inl ⟨rfl, rfl⟩⟩, fun b h => by cases h⟩⟩, fun i j b _ _ h => by cases h⟩
theorem NL.same {G : Nat → Prop} {w0 w : World} {L W : Nat} {f f' : Nat → Mt} (h : NL G w0 w L W f) (hf : ∀ i, i < W → f' i = f i) : NL G w0 w L W f' := by
  obtain ⟨vs, h1, h2⟩ := h.ex
  refine ⟨h.kb, h.hL, h.gL, h.gl, h.fr, vs, fun j hj => ?_, h2⟩
  have e : rowF f' j = rowF f j := by unfold rowF; rw [hf (j / 2) (by omega)]
  rw [e]
  exact h1 j hj
/-- One slice has one span more. -/
theorem NL.turn {G : Nat → Prop} {w0 w : World} {L W : Nat} {f : Nat → Mt} (h : NL G w0 w L W f) (j0 : Nat) (hj0 : j0 < 2 * W) :
    ∃ t, w.cell? ⟨L, j0, none⟩ = some t ∧ w.ownsRow w0.heap.size 26 4 t (rowF f j0).length (spCs (rowF f j0)) ∧ t.ownBlock ≠ some L ∧
      ∀ w' l' f', TP w w' L j0 w0.heap.size t l'.length l' → rowF f' j0 = l' → (∀ j, j < 2 * W → j ≠ j0 → rowF f' j = rowF f j) → NL G w0 w' L W f' ∧ ∀ b, G b → b ≠ L → w'.heap[b]? = w.heap[b]? := by
  obtain ⟨vs, h1, h2⟩ := h.ex
  obtain ⟨g1, g2, g3⟩ := h1 j0 hj0
  refine ⟨vs j0, g1, g2, fun e => g3 _ e h.gL, fun w' l' f' T e1 e2 => ?_⟩
  obtain ⟨t', c1, c2, c3, c4⟩ := T.ex
  have hs : w.heap.size ≤ w'.heap.size := T.size
  refine ⟨⟨h.kb.trans T.bl, h.hL, h.gL, fun b g => Nat.lt_of_lt_of_le (h.gl b g) hs, fun j => (T.fr j).trans (h.fr j), fun j => if j = j0 then t' else vs j, fun j hj => ?_, fun i j b hi hj a1 a2 => ?_⟩, fun b g hne => T.hp b (h.gl b g) hne fun e => g3 b e.symm g⟩
  · by_cases hjj : j = j0
    · subst hjj
      simp only [if_pos]
      rw [e1]
      refine ⟨c1, c2, fun b e g => ?_⟩
      rcases c3 with c3 | ⟨b', c5, c6⟩
      · exact g3 b (by rw [← c3]; exact e) g
      · rw [c5] at e
        injection e with e
        have := h.gl b g
        omega
    · simp only [if_neg hjj]
      obtain ⟨k1, k2, k3⟩ := h1 j hj
      rw [e2 j hj hjj]
      refine ⟨(T.ce j hjj).trans k1, own_at k2 fun g e hl => T.hp g hl (fun e2 => k3 g e (by rw [e2]; exact h.gL)) fun e2 => hjj (h2 j j0 g hj hj0 e e2.symm), k3⟩
  · have hlt : ∀ i, i < 2 * W → (vs i).ownBlock = some b → b < w.heap.size := fun i hi e => by
      obtain ⟨_, _, _, _, _, _, ho⟩ := own_form (h1 i hi).2.1
      exact (ho _ e).2
    by_cases h3 : i = j0 <;> by_cases h4 : j = j0
    · omega
    · simp only [if_pos h3] at a1
      simp only [if_neg h4] at a2
      rcases c3 with c3 | ⟨b', c5, c6⟩
      · rw [c3] at a1
        rw [h3]
        exact h2 j0 j b hj0 hj a1 a2
      · rw [c5] at a1
        injection a1 with a1
        have := hlt j hj a2
        omega
    · simp only [if_neg h3] at a1
      simp only [if_pos h4] at a2
      rcases c3 with c3 | ⟨b', c5, c6⟩
      · rw [c3] at a2
        rw [h4]
        exact h2 i j0 b hi hj0 a1 a2
      · rw [c5] at a2
        injection a2 with a2
        have := hlt i hi a1
        omega
    · simp only [if_neg h3] at a1
      simp only [if_neg h4] at a2
      exact h2 i j b hi hj a1 a2
/-- They are a slice of matches. -/
theorem NL.ms {G : Nat → Prop} {w0 w : World} {L W : Nat} {f : Nat → Mt} (h : NL G w0 w L W f) (ms : List Mt) (hl : ms.length = W) (hf : ∀ i (hi : i < ms.length), f i = ms[i]) : MS w w.heap.size (some ⟨L, 0, none⟩) ms := by
  obtain ⟨vs, h1, h2⟩ := h.ex
  refine ⟨(List.range W).map fun i => (vs (2 * i), vs (2 * i + 1)), fun _ => ⟨L, 0, rfl, h.gl L h.gL, fun j u hu => ?_⟩, ⟨by simp [hl], fun k k1 k2 => ?_⟩⟩
  · have hj : j < 2 * W := by
      have := (List.getElem?_eq_some_iff.1 hu).1
      rw [zC_len] at this
      simp at this
      omega
    have hq : j / 2 < ((List.range W).map fun i => (vs (2 * i), vs (2 * i + 1))).length := by simp; omega
    obtain ⟨a0, a1⟩ := zC_at _ (j / 2) hq
    rw [List.getElem_map, List.getElem_range] at a0 a1
    simp only at a0 a1
    rw [Nat.zero_add, (h1 j hj).1]
    rcases Nat.mod_two_eq_zero_or_one j with e | e
    · rw [show j / 2 * 2 = j by omega, hu] at a0
      rw [show 2 * (j / 2) = j by omega] at a0
      exact a0.symm
    · rw [show j / 2 * 2 + 1 = j by omega, hu] at a1
      rw [show 2 * (j / 2) + 1 = j by omega] at a1
      exact a1.symm
  · have hkW : k < W := by omega
    obtain ⟨_, r0, _⟩ := h1 (2 * k) (by omega)
    obtain ⟨_, r1, _⟩ := h1 (2 * k + 1) (by omega)
    have e0 : rowF f (2 * k) = ms[k].1 := by unfold rowF; rw [if_pos (by omega), show 2 * k / 2 = k by omega, hf k k2]
    have e1 : rowF f (2 * k + 1) = ms[k].2 := by unfold rowF; rw [if_neg (by omega), show (2 * k + 1) / 2 = k by omega, hf k k2]
    rw [e0] at r0
    rw [e1] at r1
    rw [List.getElem_map, List.getElem_range]
    exact ⟨SV.own r0 rfl, SV.own r1 rfl⟩
end Go.Proofs.Ytafbjadlklcicaa
