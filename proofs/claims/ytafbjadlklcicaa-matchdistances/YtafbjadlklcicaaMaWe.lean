/- MatchWindows: what the law says and what the program does are one. -/
import Derived.Test.YtafbjadlklcicaaMaWi3
namespace Go.Proofs.Ytafbjadlklcicaa
open Go.RowKit Go.Shelf
set_option maxRecDepth 100000

/-- Places that are right. -/
def okL (l : List Sp) : Prop := ∀ s ∈ l, 0 ≤ s.1 ∧ s.1 ≤ s.2.1 ∧ s.2.1 ≤ 1000
theorem good_ok {ms : List Mt} {k : Int} (h : goodB ms k = true) : ∀ m ∈ ms, okL m.1 ∧ okL m.2 := fun m hm => by
  unfold goodB at h
  rw [Bool.and_eq_true, List.all_eq_true] at h
  have := h.1 m hm
  unfold okM at this
  rw [Bool.and_eq_true, List.all_eq_true] at this
  have key : ∀ s ∈ m.1 ++ m.2, 0 ≤ s.1 ∧ s.1 ≤ s.2.1 ∧ s.2.1 ≤ 1000 := fun s hs => by
    have := this.2 s hs
    unfold okS at this
    simp only [Bool.and_eq_true, decide_eq_true_eq] at this
    omega
  exact ⟨fun s hs => key s (List.mem_append_left _ hs), fun s hs => key s (List.mem_append_right _ hs)⟩
theorem okL_snoc {l : List Sp} {s : Sp} (h : okL l) (k : 0 ≤ s.1 ∧ s.1 ≤ s.2.1 ∧ s.2.1 ≤ 1000) : okL (l ++ [s]) := fun x hx => by
  rcases List.mem_append.1 hx with hx | hx
  · exact h x hx
  · rw [List.mem_singleton.1 hx]; exact k
theorem rkL_bd (u : Int) (ss ps : List Int) (h1 : ss.length ≤ 1000) (h2 : ps.length ≤ 1000) (x : Int) (h : 0 ≤ x ∧ x ≤ 1000) : 0 ≤ rkL u ss ps x ∧ rkL u ss ps x ≤ 1000 := by
  unfold rkL
  by_cases h0 : u = 0
  · rw [if_pos h0]; exact h
  · rw [if_neg h0]
    have a := cntI_le ss x
    have b := cntI_le ps x
    by_cases h1 : u = 1
    · rw [if_pos h1]; omega
    · rw [if_neg h1]; omega
theorem foldmin' (g : Sp → Int) (t : List Sp) : ∀ m : Int, (∀ x ∈ t, t.foldl (fun m x => min m (g x)) m ≤ g x) ∧ (t.foldl (fun m x => min m (g x)) m = m ∨ ∃ x ∈ t, t.foldl (fun m x => min m (g x)) m = g x) ∧ t.foldl (fun m x => min m (g x)) m ≤ m := by
  induction t with
  | nil => intro m; exact ⟨(fun x h => by cases h), .inl rfl, Int.le_refl _⟩
  | cons s t ih =>
    intro m
    obtain ⟨h1, h3, h2⟩ := ih (min m (g s))
    rw [List.foldl_cons]
    refine ⟨fun x hx => ?_, ?_, by omega⟩
    · rcases List.mem_cons.1 hx with rfl | hx
      · omega
      · exact h1 x hx
    · rcases h3 with h3 | ⟨x, hx, h3⟩
      · rcases (by omega : min m (g s) = m ∨ min m (g s) = g s) with e | e
        · exact .inl (h3.trans e)
        · exact .inr ⟨s, by simp, h3.trans e⟩
      · exact .inr ⟨x, List.mem_cons_of_mem _ hx, h3⟩
theorem foldmax' (g : Sp → Int) (t : List Sp) : ∀ m : Int, (∀ x ∈ t, g x ≤ t.foldl (fun m x => max m (g x)) m) ∧ (t.foldl (fun m x => max m (g x)) m = m ∨ ∃ x ∈ t, t.foldl (fun m x => max m (g x)) m = g x) ∧ m ≤ t.foldl (fun m x => max m (g x)) m := by
  induction t with
  | nil => intro m; exact ⟨(fun x h => by cases h), .inl rfl, Int.le_refl _⟩
  | cons s t ih =>
    intro m
    obtain ⟨h1, h3, h2⟩ := ih (max m (g s))
    rw [List.foldl_cons]
    refine ⟨fun x hx => ?_, ?_, by omega⟩
    · rcases List.mem_cons.1 hx with rfl | hx
      · omega
      · exact h1 x hx
    · rcases h3 with h3 | ⟨x, hx, h3⟩
      · rcases (by omega : max m (g s) = m ∨ max m (g s) = g s) with e | e
        · exact .inl (h3.trans e)
        · exact .inr ⟨s, by simp, h3.trans e⟩
      · exact .inr ⟨x, List.mem_cons_of_mem _ hx, h3⟩
theorem lo_snoc (l : List Sp) (h0 : l ≠ []) (s : Sp) : lo (l ++ [s]) = lo [hullL l, s] ∧ hi (l ++ [s]) = hi [hullL l, s] := by
  cases l with
  | nil => exact absurd rfl h0
  | cons a t =>
    unfold hullL
    refine ⟨?_, ?_⟩
    · show (t ++ [s]).foldl _ _ = _
      rw [List.foldl_append]
      rfl
    · show (t ++ [s]).foldl _ _ = _
      rw [List.foldl_append]
      rfl
section
variable {u : Int} {ss ps : List Int} (b1 : ss.length ≤ 1000) (b2 : ps.length ≤ 1000)
include b1 b2
theorem loR_eq {l : List Sp} (h : okL l) (h0 : l ≠ []) : loR u ss ps l = rkL u ss ps (lo l) := by
  obtain ⟨a1, a2, _⟩ := foldmin' (fun s => rkL u ss ps s.1) l 1073741824
  obtain ⟨c1, s1, hs1, c2⟩ := lo_spec l h0
  have e1 : loR u ss ps l ≤ rkL u ss ps s1.1 := a1 s1 hs1
  have g1 := rkL_bd u ss ps b1 b2 s1.1 (by have := h s1 hs1; omega)
  rcases a2 with a2 | ⟨x, hx, a2⟩
  · have e : loR u ss ps l = 1073741824 := a2
    omega
  · have e : loR u ss ps l = rkL u ss ps x.1 := a2
    have := rkL_mono u ss ps (c1 x hx)
    rw [c2] at this ⊢
    omega
theorem hiR_eq {l : List Sp} (h : okL l) (h0 : l ≠ []) : hiR u ss ps l = rkL u ss ps (hi l) := by
  obtain ⟨a1, a2, _⟩ := foldmax' (fun s => rkL u ss ps s.2.1) l (-1)
  obtain ⟨c1, s1, hs1, c2⟩ := hi_spec l h0
  have e1 : rkL u ss ps s1.2.1 ≤ hiR u ss ps l := a1 s1 hs1
  have g1 := rkL_bd u ss ps b1 b2 s1.2.1 (by have := h s1 hs1; omega)
  rcases a2 with a2 | ⟨x, hx, a2⟩
  · have e : hiR u ss ps l = -1 := a2
    omega
  · have e : hiR u ss ps l = rkL u ss ps x.2.1 := a2
    have := rkL_mono u ss ps (c1 x hx)
    rw [c2] at this ⊢
    omega
theorem intP_eq {l : List Sp} (h : okL l) (n : Int) : intP u ss ps n l = winP u ss ps n l := by
  unfold intP winP widV
  by_cases h0 : l.length = 0
  · rw [if_pos h0, if_pos h0]
  · rw [if_neg h0, if_neg h0]
    have hne : l ≠ [] := fun e => h0 (by rw [e]; rfl)
    rw [loR_eq b1 b2 h hne, hiR_eq b1 b2 h hne]
    obtain ⟨_, s1, hs1, c1⟩ := lo_spec l hne
    obtain ⟨_, s2, hs2, c2⟩ := hi_spec l hne
    have g1 := rkL_bd u ss ps b1 b2 (lo l) (by rw [c1]; have := h s1 hs1; omega)
    have g2 := rkL_bd u ss ps b1 b2 (hi l) (by rw [c2]; have := h s2 hs2; omega)
    unfold wrap64
    refine decide_eq_decide.2 ?_
    omega
theorem intT_eq {l : List Sp} (h : okL l) {s : Sp} (k : 0 ≤ s.1 ∧ s.1 ≤ s.2.1 ∧ s.2.1 ≤ 1000) (n : Int) : intT u ss ps n l s = !winQ u ss ps n l s := by
  have e : intT u ss ps n l s = winP u ss ps n (l ++ [s]) := intP_eq b1 b2 (okL_snoc h k) n
  rw [e]
  unfold winQ
  by_cases h0 : l.length = 0
  · rw [if_pos h0, Bool.not_not, List.eq_nil_of_length_eq_zero h0]
    rfl
  · rw [if_neg h0, Bool.not_not]
    have hne : l ≠ [] := fun e => h0 (by rw [e]; rfl)
    obtain ⟨e1, e2⟩ := lo_snoc l hne s
    unfold winP
    rw [if_neg (by rw [List.length_append]; simp), if_neg (by simp), e1, e2]
theorem into_eq {ms : List Mt} (h : ∀ m ∈ ms, okL m.1 ∧ okL m.2) (n : Int) : filL (intP u ss ps n) (intT u ss ps n) ms = winL u ss ps n ms := by
  unfold filL winL thruL
  rw [List.filter_congr fun m hm => intP_eq b1 b2 (h m hm).1 n]
  refine List.map_congr_left fun m hm => ?_
  have hm' := h m (List.mem_filter.1 hm).1
  unfold filM dropM keptL
  rw [List.filter_congr fun s hs => intT_eq b1 b2 hm'.1 (hm'.2 s hs) n]
end
theorem lap_eq (u : Int) (ss ps : List Int) {l : List Sp} (h : okL l) : lapP u ss ps l = apP u ss ps l := by
  rw [Bool.eq_iff_iff, lapP_iff]
  have hperm := sortK_perm (l.map kyS)
  have hsort := sortK_sorted (l.map kyS)
  have hok : ∀ k ∈ sortK (l.map kyS), k.1 ≤ k.2 := fun k hk => by
    obtain ⟨s, hs, rfl⟩ := List.mem_map.1 (hperm.subset hk)
    exact (h s hs).2.1
  have hsym : ∀ {a b : Ky}, ¬(rkL u ss ps a.1 ≤ rkL u ss ps b.2 ∧ rkL u ss ps b.1 ≤ rkL u ss ps a.2) → ¬(rkL u ss ps b.1 ≤ rkL u ss ps a.2 ∧ rkL u ss ps a.1 ≤ rkL u ss ps b.2) := fun k e => k ⟨e.2, e.1⟩
  have e1 : (∀ i k (hi : i < l.length) (hk : k < l.length), i ≠ k → apB u ss ps l[i] l[k] = false) ↔ (l.map kyS).Pairwise (fun a b => ¬(rkL u ss ps a.1 ≤ rkL u ss ps b.2 ∧ rkL u ss ps b.1 ≤ rkL u ss ps a.2)) := by
    rw [List.pairwise_map, List.pairwise_iff_getElem]
    have key : ∀ i k (hi : i < l.length) (hk : k < l.length), apB u ss ps l[i] l[k] = false ↔ ¬(rkL u ss ps l[i].1 ≤ rkL u ss ps l[k].2.1 ∧ rkL u ss ps l[k].1 ≤ rkL u ss ps l[i].2.1) := fun i k hi hk => by
      unfold apB
      rw [← Bool.not_eq_true, Bool.and_eq_true, decide_eq_true_iff, decide_eq_true_iff]
    constructor
    · intro h i k hi hk hik
      exact (key i k hi hk).1 (h i k hi hk (by omega))
    · intro h i k hi hk hne
      rw [key]
      rcases Nat.lt_or_gt_of_ne hne with h' | h'
      · exact h i k hi hk h'
      · exact hsym (h k i hk hi h')
  rw [e1, ← hperm.pairwise_iff hsym]
  unfold apP nbP
  generalize sortK (l.map kyS) = ks at hperm hsort hok ⊢
  rw [adjK_iff, List.pairwise_iff_getElem]
  have hs := List.pairwise_iff_getElem.1 hsort
  constructor
  · intro hp k hk
    have d := hp k (k + 1) (by omega) hk (Nat.lt_succ_self k)
    have o := hs k (k + 1) (by omega) hk (Nat.lt_succ_self k)
    rw [leK_iff] at o
    have o2 := hok ks[k + 1] (List.getElem_mem hk)
    have m1 := rkL_mono u ss ps (show ks[k].1 ≤ ks[k + 1].2 by omega)
    unfold rA
    rw [decide_eq_true_iff]
    omega
  · intro hp i j hi hj hij
    have step : ∀ d i (hd : i + d + 1 < ks.length), rkL u ss ps ks[i].2 < rkL u ss ps ks[i + d + 1].1 := by
      intro d
      induction d with
      | zero =>
        intro i hd
        have := hp i hd
        unfold rA at this
        exact of_decide_eq_true this
      | succ d ih =>
        intro i hd
        have a := ih i (by omega)
        have b := hp (i + d + 1) hd
        unfold rA at b
        rw [decide_eq_true_iff] at b
        have c := rkL_mono u ss ps (hok ks[i + d + 1] (List.getElem_mem (by omega)))
        have e : ks[i + (d + 1) + 1] = ks[i + d + 1 + 1] := rfl
        rw [e]
        omega
    have := step (j - i - 1) i (by omega)
    simp only [show i + (j - i - 1) + 1 = j by omega] at this
    omega
theorem lapL_eq (u : Int) (ss ps : List Int) {ms : List Mt} (h : ∀ m ∈ ms, okL m.1 ∧ okL m.2) : filL (lapP u ss ps) (fun _ _ => true) ms = thruL (apP u ss ps) ms := by
  unfold filL thruL
  rw [List.filter_congr fun m hm => lap_eq u ss ps (h m hm).1]
  have e : (filM fun _ _ => true) = id := by
    funext m
    show (m.1, m.2.filter fun _ => true) = m
    rw [List.filter_eq_self.2 fun _ _ => rfl]
  rw [e, List.map_id]
end Go.Proofs.Ytafbjadlklcicaa
