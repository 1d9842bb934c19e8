/- Parts as texts, read back; words by their beginnings, ends, middles. No Go in sight. -/
import Derived.Test.YtdijicdlglnlmaaDoorGlPlain
namespace Go.Proofs.YtdijicdlglnlmaaDoor
open Go.Lib
set_option maxRecDepth 100000

/-- What may stand behind a part's text: nothing, or another part of ours. -/
def goodH (l : List UInt8) : Prop := l = [] ∨ l.head? = some 46 ∨ l.head? = some 92
/-- A text that is one part, whatever part stands behind it. -/
def isPart (t : List UInt8) (p : GP) : Prop := t ≠ [] ∧ (t.head? = some 46 ∨ t.head? = some 92) ∧ ∀ rest, goodH rest → firstL (t ++ rest) = (p, (t.length : Int))
theorem parts_good : ∀ (ts : List (List UInt8 × GP)), (∀ x ∈ ts, isPart x.1 x.2) → goodH (ts.flatMap Prod.fst)
  | [], _ => .inl rfl
  | (t, p) :: r, h => by
    obtain ⟨h1, h2, _⟩ := h (t, p) (by simp)
    rw [List.flatMap_cons]
    cases t with
    | nil => exact absurd rfl h1
    | cons c u => exact .inr h2
theorem parts_parse (ts : List (List UInt8 × GP)) : ∀ (f : Nat) (acc : List GP), (ts.flatMap Prod.fst).length ≤ f → (∀ x ∈ ts, isPart x.1 x.2) → acc.length + ts.length ≤ 200 → parseL f (ts.flatMap Prod.fst) acc = .ok (acc ++ ts.map Prod.snd) := by
  induction ts with
  | nil =>
    intro f acc _ _ _
    cases f with
    | zero => simp [parseL]
    | succ f => rw [parseL, if_pos (show ([] : List (List UInt8 × GP)).flatMap Prod.fst = [] from rfl)]; simp
  | cons x r ih =>
    intro f acc hf hs ha
    obtain ⟨t, p⟩ := x
    obtain ⟨h1, _, h3⟩ := hs (t, p) (by simp)
    simp only at h1 h3
    have hl := List.length_pos_iff.2 h1
    rw [List.flatMap_cons, List.length_append] at hf
    rw [List.length_cons] at ha
    simp only at hf
    cases f with
    | zero => omega
    | succ f =>
      have hr := fun x hx => hs x (List.mem_cons_of_mem _ hx)
      rw [List.flatMap_cons]
      simp only
      have hne : t ++ r.flatMap Prod.fst ≠ [] := by intro e; have e2 := congrArg List.length e; rw [List.length_append, List.length_nil] at e2; omega
      rw [parseL, if_neg hne, if_neg (by omega), h3 _ (parts_good r hr), if_neg (by simp only; omega)]
      simp only [Int.toNat_natCast]
      rw [List.drop_left, ih f _ (by omega) hr (by simp; omega)]
      simp
theorem part_sign (r : Nat) (hs : isSign r) : isPart (92 :: encS r) (sgn r) := by
  refine ⟨by simp, .inr rfl, fun rest _ => ?_⟩
  unfold firstL
  have h0 := (encS_len r).1
  rw [if_neg (by simp), if_pos (by simp)]
  simp only [List.cons_append, List.drop_succ_cons, List.drop_zero]
  rw [nextN_enc r hs rest, if_neg (by simp only; omega), List.length_cons]
  simp only [sgn, Prod.mk.injEq, true_and]
  omega
theorem often_none (rest : List UInt8) (h : goodH rest) : oftenL rest = (1, 1, 0) := by
  unfold oftenL
  rcases h with rfl | h | h
  · rfl
  · rw [if_neg (by rintro rfl; simp at h), h]; rfl
  · rw [if_neg (by rintro rfl; simp at h), h]; rfl
theorem part_dot (t : List UInt8) (o : Int × Int × Int) (ho : ∀ rest, goodH rest → oftenL (t ++ rest) = o) (h2 : o.2.2 = t.length) : isPart (46 :: t) (true, 0, o.1, o.2.1) := by
  refine ⟨by simp, .inl rfl, fun rest hr => ?_⟩
  unfold firstL
  rw [if_pos (by simp)]
  simp only [List.cons_append, List.drop_succ_cons, List.drop_zero]
  rw [ho rest hr, if_neg (by omega), List.length_cons, h2]
  simp only [Prod.mk.injEq, true_and]
  omega
theorem part_one : isPart [46] (true, 0, 1, 1) := part_dot [] (1, 1, 0) (fun rest h => often_none rest h) rfl
theorem part_ask : isPart [46, 63] (true, 0, 0, 1) := part_dot [63] (0, 1, 1) (fun _ _ => rfl) rfl
theorem part_plus : isPart [46, 43] (true, 0, 1, maxI) := part_dot [43] (1, maxI, 1) (fun _ _ => rfl) rfl
theorem part_star : isPart [46, 42] (true, 0, 0, maxI) := part_dot [42] (0, maxI, 1) (fun _ _ => rfl) rfl
def star : GP := (true, 0, 0, maxI)
theorem index_app (pre rest : List UInt8) (c : UInt8) (h : ∀ x ∈ pre, x ≠ c) : indexByte (pre ++ c :: rest) c = pre.length := by
  induction pre with
  | nil => unfold indexByte; rw [List.nil_append]; simp
  | cons b t ih =>
    rw [List.cons_append, indexByte, if_neg (by simpa using h b (by simp)), ih (fun x hx => h x (by simp [hx])), if_neg (by simp), List.length_cons]
    omega
theorem part_braces (a b : List UInt8) (lo hi : Int) (ha : ∀ x ∈ a, x ≠ 44 ∧ x ≠ 125) (hb : ∀ x ∈ b, x ≠ 125) (h1 : numL a = lo) (h2 : numL b = hi) (hlo : 0 ≤ lo) (hlh : lo ≤ hi) :
    isPart (46 :: 123 :: (a ++ 44 :: (b ++ [125]))) (true, 0, lo, hi) := by
  refine part_dot (123 :: (a ++ 44 :: (b ++ [125]))) (lo, hi, ((123 :: (a ++ 44 :: (b ++ [125]))).length : Int)) (fun rest _ => ?_) rfl
  have e : 123 :: (a ++ 44 :: (b ++ [125])) ++ rest = (123 :: (a ++ 44 :: b)) ++ 125 :: rest := by simp
  rw [e]
  have hi1 : indexByte ((123 :: (a ++ 44 :: b)) ++ 125 :: rest) 125 = ((123 :: (a ++ 44 :: b)).length : Int) := index_app _ _ _ (by
    intro x hx
    simp only [List.mem_cons, List.mem_append] at hx
    rcases hx with rfl | hx | rfl | hx
    · decide
    · exact (ha x hx).2
    · decide
    · exact hb x hx)
  have hbody : bodyL ((123 :: (a ++ 44 :: b)) ++ 125 :: rest) = a ++ 44 :: b := by
    unfold bodyL
    rw [hi1, Int.toNat_natCast, List.take_left]
    rfl
  have hi2 : indexByte (a ++ 44 :: b) 44 = (a.length : Int) := index_app _ _ _ (fun x hx => (ha x hx).1)
  have hA : braA ((123 :: (a ++ 44 :: b)) ++ 125 :: rest) = lo := by
    unfold braA
    rw [hbody, hi2, cutA, if_neg (by omega), Int.toNat_natCast, List.take_left, h1]
  have hB : braB ((123 :: (a ++ 44 :: b)) ++ 125 :: rest) = hi := by
    unfold braB
    rw [hbody, hi2, cutB, if_neg (by omega), Int.toNat_natCast, ← List.drop_drop, List.drop_left]
    exact h2
  unfold oftenL
  rw [if_neg (by simp), if_neg (by simp), if_neg (by simp), if_neg (by simp), if_pos (by simp)]
  unfold bracesL
  rw [hA, hB, hi1, if_neg (by omega), if_neg (by omega)]
  simp only [Prod.mk.injEq, true_and, List.length_cons, List.length_append, List.length_nil]
  omega

/-! where a text of signs stands in another one -/
theorem star_ok (u : List Int) (h : (u.length : Int) ≤ maxI) : okP star u := by
  unfold okP star
  rw [if_pos rfl]
  exact ⟨by simp only; omega, h⟩
theorem valid_rest (rs : List Nat) (hs : allSign rs) (x : List UInt8) (b : List Nat) (hb : allSign b) (h : encAll b = encAll rs ++ x) : ∃ c, allSign c ∧ b = rs ++ c := by
  have hv := valid_all b hb
  rw [h, valid_cat _ _ (valid_all rs hs)] at hv
  obtain ⟨c, hc, rfl⟩ := signs_ex x hv
  refine ⟨c, hc, encAll_inj b (rs ++ c) hb ?_ (by rw [h, encAll_app])⟩
  intro r hr
  rcases List.mem_append.1 hr with hr | hr
  · exact hs r hr
  · exact hc r hr
theorem boundary (ws : List Nat) : ∀ (n : Nat), allSign ws → n ≤ (encAll ws).length → (∀ c, (encAll ws)[n]? = some c → isCont c = false) → ∃ a b, ws = a ++ b ∧ (encAll a).length = n := by
  induction ws with
  | nil => intro n _ hn _; exact ⟨[], [], rfl, by simp [encAll] at hn ⊢; omega⟩
  | cons r t ih =>
    intro n hs hn hc
    rw [encAll_cons, List.length_append] at hn
    rw [encAll_cons] at hc
    by_cases h0 : n = 0
    · subst h0; exact ⟨[], r :: t, rfl, rfl⟩
    · by_cases hlt : n < (encS r).length
      · exfalso
        obtain ⟨c, u, e, _, hu⟩ := enc_form r (hs r (by simp))
        rw [e] at hlt hc
        obtain ⟨k, rfl⟩ : ∃ k, n = k + 1 := ⟨n - 1, by omega⟩
        rw [List.length_cons] at hlt
        have hk : k < u.length := by omega
        have h1 := hc (u[k]'hk) (by rw [List.cons_append, List.getElem?_cons_succ, List.getElem?_append_left hk, List.getElem?_eq_getElem hk])
        rw [List.all_eq_true] at hu
        rw [hu _ (List.getElem_mem hk)] at h1
        cases h1
      · obtain ⟨a, b, e, hl⟩ := ih (n - (encS r).length) (fun x hx => hs x (by simp [hx])) (by omega) (fun c h => hc c (by rw [List.getElem?_append_right (by omega)]; exact h))
        exact ⟨r :: a, b, by rw [e]; rfl, by rw [encAll_cons, List.length_append, hl]; omega⟩
theorem sub_sign {a b : List Nat} (h : allSign (a ++ b)) : allSign a ∧ allSign b := ⟨fun r hr => h r (by simp [hr]), fun r hr => h r (by simp [hr])⟩
theorem at_iff (rs ws : List Nat) (hr : allSign rs) (hw : allSign ws) (n : Nat) (h : (encAll ws).drop n = encAll rs ++ (encAll ws).drop (n + (encAll rs).length)) (hn : n ≤ (encAll ws).length) (hne : rs ≠ []) : ∃ a c, allSign c ∧ ws = a ++ (rs ++ c) ∧ (encAll a).length = n := by
  obtain ⟨r, t, rfl⟩ : ∃ r t, rs = r :: t := by cases rs with
    | nil => exact absurd rfl hne
    | cons r t => exact ⟨r, t, rfl⟩
  obtain ⟨c0, u, e, hc0, _⟩ := enc_form r (hr r (by simp))
  have hb := boundary ws n hw hn (fun c hc => by
    have h2 : (encAll ws)[n]? = ((encAll ws).drop n)[0]? := by rw [List.getElem?_drop, Nat.add_zero]
    rw [h2, h, encAll_cons, e] at hc
    have : c0 = c := by simpa using hc
    rw [← this]; exact hc0)
  obtain ⟨a, b, rfl, hl⟩ := hb
  rw [encAll_app] at h
  have h3 : encAll b = encAll (r :: t) ++ (encAll a ++ encAll b).drop (n + (encAll (r :: t)).length) := by
    rw [← h, ← hl, List.drop_left]
  obtain ⟨c, hc, rfl⟩ := valid_rest (r :: t) hr _ b (sub_sign hw).2 h3
  exact ⟨a, c, hc, rfl, hl⟩
def inAt (m l : List UInt8) (n : Nat) : Bool := decide ((m.take (n + l.length)).drop n = l)
def inB (m l : List UInt8) (k : Nat) : Bool := (List.range k).any fun n => inAt m l n
theorem take_drop_app (m l : List UInt8) (n : Nat) (h : (m.take (n + l.length)).drop n = l) : m.drop n = l ++ m.drop (n + l.length) := by
  rw [← List.drop_drop]
  rw [List.drop_take, show n + l.length - n = l.length by omega] at h
  have := List.take_append_drop l.length (m.drop n)
  rw [h] at this
  exact this.symm
theorem in_iff (rs ws : List Nat) (hr : allSign rs) (hw : allSign ws) (k : Nat) (hk : ∀ n, n + (encAll rs).length ≤ (encAll ws).length → n < k) (hk2 : ∀ n, n < k → n + (encAll rs).length ≤ (encAll ws).length) :
    inB (encAll ws) (encAll rs) k = true ↔ ∃ a c, ws = a ++ (rs ++ c) := by
  unfold inB inAt
  simp only [List.any_eq_true, List.mem_range, decide_eq_true_eq]
  constructor
  · rintro ⟨n, hn, h⟩
    by_cases hne : rs = []
    · subst hne; exact ⟨[], ws, rfl⟩
    · obtain ⟨a, c, _, h2, _⟩ := at_iff rs ws hr hw n (take_drop_app _ _ _ h) (by have := hk2 n hn; omega) hne
      exact ⟨a, c, h2⟩
  · rintro ⟨a, c, rfl⟩
    refine ⟨(encAll a).length, hk _ ?_, ?_⟩
    · rw [encAll_app, encAll_app, List.length_append, List.length_append]; omega
    · rw [List.drop_take, encAll_app, encAll_app, List.drop_left, show (encAll a).length + (encAll rs).length - (encAll a).length = (encAll rs).length by omega, List.take_left]
theorem begins_iff (rs ws : List Nat) (hr : allSign rs) (hw : allSign ws) : (encAll ws).take (encAll rs).length = encAll rs ↔ ∃ c, ws = rs ++ c := by
  constructor
  · intro h
    have h2 := List.take_append_drop (encAll rs).length (encAll ws)
    rw [h] at h2
    obtain ⟨c, _, e⟩ := valid_rest rs hr _ ws hw h2.symm
    exact ⟨c, e⟩
  · rintro ⟨c, rfl⟩
    rw [encAll_app, List.take_left]
theorem ends_with (rs ws : List Nat) (hr : allSign rs) (hw : allSign ws) (hl : (encAll rs).length ≤ (encAll ws).length) : (encAll ws).drop ((encAll ws).length - (encAll rs).length) = encAll rs ↔ ∃ a, ws = a ++ rs := by
  constructor
  · intro h
    by_cases hne : rs = []
    · subst hne; exact ⟨ws, by simp⟩
    · obtain ⟨a, c, hc, h2, h3⟩ := at_iff rs ws hr hw ((encAll ws).length - (encAll rs).length) (by rw [h, List.drop_eq_nil_of_le (by omega), List.append_nil]) (by omega) hne
      have h4 : (encAll c).length = 0 := by
        have := congrArg (fun x => (encAll x).length) h2
        simp only [encAll_app, List.length_append] at this
        omega
      have h5 : c = [] := by have := encAll_len c; exact List.eq_nil_of_length_eq_zero (by omega)
      exact ⟨a, by rw [h2, h5, List.append_nil]⟩
  · rintro ⟨a, rfl⟩
    rw [encAll_app, List.length_append, show (encAll a).length + (encAll rs).length - (encAll rs).length = (encAll a).length by omega, List.drop_left]
theorem map_app {a b : List Nat} : (a ++ b).map (fun r : Nat => (r : Int)) = a.map (fun r : Nat => (r : Int)) ++ b.map fun r : Nat => (r : Int) := List.map_append
theorem take_map (ws : List Nat) (n : Nat) : (ws.map fun r : Nat => (r : Int)).take n = (ws.take n).map fun r : Nat => (r : Int) := by rw [List.map_take]
theorem drop_map (ws : List Nat) (n : Nat) : (ws.map fun r : Nat => (r : Int)).drop n = (ws.drop n).map fun r : Nat => (r : Int) := by rw [List.map_drop]
theorem mt_begins (rs ws : List Nat) (hl : (ws.length : Int) ≤ maxI) : MtP (rs.map sgn ++ [star]) (ws.map fun r : Nat => (r : Int)) ↔ ∃ c, ws = rs ++ c := by
  rw [MtP_app]
  constructor
  · rintro ⟨n, _, h1, _⟩
    rw [plain_mt, take_map] at h1
    have h2 := map_inj _ _ h1
    exact ⟨ws.drop n, by rw [← h2, List.take_append_drop]⟩
  · rintro ⟨c, rfl⟩
    refine ⟨rs.length, by simp, ?_, (MtP_one _ _).2 (star_ok _ ?_)⟩
    · rw [take_map, List.take_left]; exact (plain_mt _ _).2 rfl
    · rw [drop_map, List.drop_left, List.length_map]; rw [List.length_append] at hl; omega
theorem mt_ends (rs ws : List Nat) (hl : (ws.length : Int) ≤ maxI) : MtP (star :: rs.map sgn) (ws.map fun r : Nat => (r : Int)) ↔ ∃ a, ws = a ++ rs := by
  rw [show star :: rs.map sgn = [star] ++ rs.map sgn from rfl, MtP_app]
  constructor
  · rintro ⟨n, _, _, h1⟩
    rw [plain_mt, drop_map] at h1
    have h2 := map_inj _ _ h1
    exact ⟨ws.take n, by rw [← h2, List.take_append_drop]⟩
  · rintro ⟨a, rfl⟩
    refine ⟨a.length, by simp, (MtP_one _ _).2 (star_ok _ ?_), ?_⟩
    · rw [take_map, List.take_left, List.length_map]; rw [List.length_append] at hl; omega
    · rw [drop_map, List.drop_left]; exact (plain_mt _ _).2 rfl
theorem mt_in (rs ws : List Nat) (hl : (ws.length : Int) ≤ maxI) : MtP (star :: (rs.map sgn ++ [star])) (ws.map fun r : Nat => (r : Int)) ↔ ∃ a c, ws = a ++ (rs ++ c) := by
  rw [show star :: (rs.map sgn ++ [star]) = [star] ++ (rs.map sgn ++ [star]) from rfl, MtP_app]
  constructor
  · rintro ⟨n, hn, _, h1⟩
    rw [drop_map, mt_begins rs (ws.drop n) (by rw [List.length_drop]; omega)] at h1
    obtain ⟨c, h2⟩ := h1
    exact ⟨ws.take n, c, by rw [← h2, List.take_append_drop]⟩
  · rintro ⟨a, c, rfl⟩
    refine ⟨a.length, by simp, (MtP_one _ _).2 (star_ok _ ?_), ?_⟩
    · rw [take_map, List.take_left, List.length_map]; rw [List.length_append] at hl; omega
    · rw [drop_map, List.drop_left, mt_begins rs (rs ++ c) (by rw [List.length_append] at hl; omega)]; exact ⟨c, rfl⟩
/-- A text with a stroke ahead of each sign. -/
def quotL (rs : List Nat) : List UInt8 := rs.flatMap fun r => 92 :: encS r
theorem quot_parts (rs : List Nat) : quotL rs = (rs.map fun r => (92 :: encS r, sgn r)).flatMap Prod.fst := by
  induction rs with
  | nil => rfl
  | cons r t ih => rw [List.map_cons, List.flatMap_cons, ← ih]; rfl
theorem quot_snd (rs : List Nat) : (rs.map fun r => ((92 :: encS r, sgn r) : List UInt8 × GP)).map Prod.snd = rs.map sgn := by rw [List.map_map]; rfl
theorem quot_valid (rs : List Nat) (hs : allSign rs) : validD (quotL rs) = true := by
  induction rs with
  | nil => rfl
  | cons r t ih =>
    rw [show quotL (r :: t) = encS 92 ++ (encS r ++ quotL t) from by simp [quotL, encS], valid_enc_app 92 (by unfold isSign; omega), valid_enc_app r (hs r (by simp))]
    exact ih fun x hx => hs x (by simp [hx])
theorem quot_len (rs : List Nat) : (quotL rs).length ≤ 5 * rs.length := by
  induction rs with
  | nil => simp [quotL]
  | cons r t ih =>
    rw [show quotL (r :: t) = (92 :: encS r) ++ quotL t from rfl, List.length_append, List.length_cons, List.length_cons]
    have := (encS_len r).2
    omega
end Go.Proofs.YtdijicdlglnlmaaDoor
