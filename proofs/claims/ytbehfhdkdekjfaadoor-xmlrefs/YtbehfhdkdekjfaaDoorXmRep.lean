/- Texts of "<a>" and "</a>", many times: what parseX makes of them. -/
import Derived.Test.YtbehfhdkdekjfaaDoorXmHead
namespace Go.Proofs.YtbehfhdkdekjfaaDoor
set_option maxRecDepth 100000

def reps (n : Nat) (p : L8) : L8 := (List.replicate n p).flatten
theorem reps_zero (p : L8) : reps 0 p = [] := rfl
theorem reps_succ (n : Nat) (p : L8) : reps (n + 1) p = p ++ reps n p := by simp [reps, List.replicate_succ]
theorem reps_snoc (n : Nat) (p : L8) : reps n p ++ p = reps (n + 1) p := by
  induction n with
  | zero => simp [reps]
  | succ n ih => rw [reps_succ, List.append_assoc, ih, ← reps_succ]
theorem reps_len (n : Nat) (p : L8) : (reps n p).length = n * p.length := by
  induction n with
  | zero => simp [reps]
  | succ n ih => rw [reps_succ, List.length_append, ih, Nat.succ_mul]; omega
theorem reps_mem (n : Nat) (p : L8) (c : UInt8) (h : c ∈ reps n p) : c ∈ p := by
  induction n with
  | zero => simp [reps] at h
  | succ n ih => rw [reps_succ] at h; rcases List.mem_append.1 h with h | h; exact h; exact ih h
theorem next_ascii (c : UInt8) (t : L8) (h : c.toNat < 128) : nextN (c :: t) = (c.toNat, 1) := by
  have := nextN_enc c.toNat (by unfold isSign; omega) t
  rw [enc_low _ h] at this
  simpa using this
theorem check_ascii : ∀ (f : Nat) (l : L8), (∀ c ∈ l, c.toNat < 128 ∧ okSign c.toNat = true) → checkL f l = 0
  | 0, _, _ => rfl
  | f + 1, [], _ => rfl
  | f + 1, c :: t, h => by
    have hc := h c (by simp)
    rw [checkL, if_neg (by simp), next_ascii c t hc.1]
    simp only
    rw [if_neg (by omega), if_pos hc.2]
    exact check_ascii f t fun x hx => h x (by simp [hx])
theorem name_a (t : L8) : nameL (97 :: 62 :: t) = ([97], 62 :: t) := rfl
theorem attrs_gt (f : Nat) (t : L8) : attrsL (f + 1) (62 :: t) [] = some ([], 62 :: t) := by
  have h1 : skipB (62 :: t) = 62 :: t := rfl
  unfold attrsL
  rw [h1, if_pos (.inl rfl)]
theorem attrs_slash (f : Nat) (t : L8) : attrsL (f + 1) (47 :: t) [] = some ([], 47 :: t) := by
  have h1 : skipB (47 :: t) = 47 :: t := rfl
  unfold attrsL
  rw [h1, if_pos (.inr rfl)]
theorem begin_open (s : St) (nm : UInt8) (t : L8) (hn : nameL (nm :: 62 :: t) = ([nm], 62 :: t)) (hr : s.rest = nm :: 62 :: t) (ho : s.opn.length < 100) (hnn : s.nodes.length < 16384) :
    beginS s = .ok { listS s [nm] [] [] with rest := t, opn := s.opn ++ [s.nodes.length] } := by
  unfold beginS
  rw [hr, hn]
  simp only
  rw [if_neg (by simp), attrs_gt]
  simp only
  rw [if_neg (by omega), if_neg (by omega)]
  rfl
theorem begin_deep (s : St) (nm : UInt8) (t : L8) (hn : nameL (nm :: 62 :: t) = ([nm], 62 :: t)) (hr : s.rest = nm :: 62 :: t) (ho : s.opn.length = 100) : beginS s = .error 12 := by
  unfold beginS
  rw [hr, hn]
  simp only
  rw [if_neg (by simp), attrs_gt]
  simp only
  rw [if_pos ho]
theorem part_open (s : St) (u : L8) (hr : s.rest = 60 :: 97 :: u) (ht : s.text = []) : partS s = beginS { s with rest := 97 :: u } := by
  have h1 : endText s = s := by unfold endText; rw [if_pos ht]
  unfold partS
  rw [hr]
  show markS (endText s) = _
  rw [h1]
  unfold markS
  rw [hr]
  rfl
theorem part_end (s : St) (u : L8) (hr : s.rest = 60 :: 47 :: u) (ht : s.text = []) : partS s = endS { s with rest := u } := by
  have h1 : endText s = s := by unfold endText; rw [if_pos ht]
  unfold partS
  rw [hr]
  show markS (endText s) = _
  rw [h1]
  unfold markS
  rw [hr]
  rfl
/-- k elements in each other are open. -/
structure Deep (s : St) (k : Nat) : Prop where
  text : s.text = []
  len : s.nodes.length = k
  opn : s.opn = List.range k
  names : ∀ (j : Nat) (nd : Nd), s.nodes[j]? = some nd → nd.name = [97] ∧ nd.level = (j : Int)
theorem deep_step (s : St) (k : Nat) (t : L8) (h : Deep s k) (hk : k < 100) (hr : s.rest = 97 :: 62 :: t) : ∃ s', beginS s = .ok s' ∧ Deep s' (k + 1) ∧ s'.rest = t := by
  refine ⟨_, begin_open s 97 t (name_a t) hr (by rw [h.opn, List.length_range]; exact hk) (by rw [h.len]; omega), ⟨?_, ?_, ?_, ?_⟩, rfl⟩
  · exact h.text
  · show (listS s [97] [] []).nodes.length = _
    rw [(listS_rest s [97] [] []).2.2.2, h.len]
  · show s.opn ++ [s.nodes.length] = _
    rw [h.opn, h.len, List.range_succ]
  · intro j nd hj
    have hj2 : (s.nodes ++ [_])[j]? = some nd := hj
    by_cases hlt : j < s.nodes.length
    · rw [List.getElem?_append_left hlt] at hj2
      exact h.names j nd hj2
    · have hj' := (List.getElem?_eq_some_iff.1 hj2).1
      have he : j = s.nodes.length := by simp at hj'; omega
      subst he
      rw [List.getElem?_append_right (Nat.le_refl _), Nat.sub_self] at hj2
      simp only [List.getElem?_cons_zero, Option.some.injEq] at hj2
      rw [← hj2]
      exact ⟨rfl, by show ((s.opn.length : Nat) : Int) = _; rw [h.opn, List.length_range, h.len]⟩
theorem opens (m : Nat) : ∀ (k : Nat) (s : St) (r : L8) (f : Nat), Deep s k → 1 ≤ k → k + m ≤ 100 → s.rest = reps m [60, 97, 62] ++ r → ∃ s', Deep s' (k + m) ∧ s'.rest = r ∧ partsS (m + f) s = partsS f s' := by
  induction m with
  | zero => intro k s r f h _ _ hr; exact ⟨s, h, by simpa [reps] using hr, by simp⟩
  | succ m ih =>
    intro k s r f h h1 h2 hr
    rw [reps_succ] at hr
    have hr' : s.rest = 60 :: 97 :: (62 :: (reps m [60, 97, 62] ++ r)) := by simpa using hr
    have hd : Deep { s with rest := 97 :: 62 :: (reps m [60, 97, 62] ++ r) } k := ⟨h.text, h.len, h.opn, h.names⟩
    obtain ⟨s1, e1, d1, r1⟩ := deep_step _ k _ hd (by omega) rfl
    obtain ⟨s', d', r', e'⟩ := ih (k + 1) s1 r f d1 (by omega) (by omega) r1
    refine ⟨s', by rw [show k + (m + 1) = k + 1 + m by omega]; exact d', r', ?_⟩
    have hne : s.opn ≠ [] := by rw [h.opn]; intro e; have := congrArg List.length e; simp at this; omega
    rw [show m + 1 + f = (m + f) + 1 by omega, partsS, if_neg hne, part_open s _ hr' h.text, e1]
    exact e'
theorem opens_over (m : Nat) : ∀ (k : Nat) (s : St) (r : L8) (f : Nat), Deep s k → 1 ≤ k → k ≤ 100 → 100 < k + m → m < f → s.rest = reps m [60, 97, 62] ++ r → partsS f s = .error 12 := by
  induction m with
  | zero => intro k s r f _ _ h1 h2; omega
  | succ m ih =>
    intro k s r f h h1 h2 h3 hf hr
    rw [reps_succ] at hr
    have hr' : s.rest = 60 :: 97 :: (62 :: (reps m [60, 97, 62] ++ r)) := by simpa using hr
    have hne : s.opn ≠ [] := by rw [h.opn]; intro e; have := congrArg List.length e; simp at this; omega
    obtain ⟨f, rfl⟩ : ∃ f', f = f' + 1 := ⟨f - 1, by omega⟩
    rw [partsS, if_neg hne, part_open s _ hr' h.text]
    by_cases hk : k = 100
    · rw [begin_deep { s with rest := 97 :: 62 :: (reps m [60, 97, 62] ++ r) } 97 _ (name_a _) rfl (by show s.opn.length = 100; rw [h.opn, List.length_range]; exact hk)]
    · have hd : Deep { s with rest := 97 :: 62 :: (reps m [60, 97, 62] ++ r) } k := ⟨h.text, h.len, h.opn, h.names⟩
      obtain ⟨s1, e1, d1, r1⟩ := deep_step _ k _ hd (by omega) rfl
      rw [e1]
      exact ih (k + 1) s1 r f d1 (by omega) (by omega) (by omega) (by omega) r1
/-- j of n elements are still open. -/
structure Shut (s : St) (n j : Nat) : Prop where
  text : s.text = []
  len : s.nodes.length = n
  opn : s.opn = List.range j
  names : ∀ (i : Nat) (nd : Nd), s.nodes[i]? = some nd → nd.name = [97] ∧ nd.level = (i : Int)
theorem shut_step (s : St) (n j : Nat) (t : L8) (h : Shut s n (j + 1)) (hj : j < n) (hr : s.rest = 97 :: 62 :: t) : ∃ s', endS s = .ok s' ∧ Shut s' n j ∧ s'.rest = t := by
  have hlast : s.opn.getLast? = some j := by rw [h.opn, List.range_succ]; simp
  have hjn : j < s.nodes.length := by rw [h.len]; exact hj
  have hnd : s.nodes[j]? = some s.nodes[j] := List.getElem?_eq_getElem hjn
  refine ⟨{ s with rest := t, nodes := setFin s.nodes j s.nodes.length, opn := s.opn.dropLast }, ?_, ⟨h.text, ?_, ?_, ?_⟩, rfl⟩
  · unfold endS
    rw [hlast]
    simp only
    rw [hnd]
    simp only
    rw [hr, name_a, (h.names j _ hnd).1, if_neg (by simp)]
    rfl
  · show (setFin s.nodes j s.nodes.length).length = n
    rw [setFin_len]; exact h.len
  · show s.opn.dropLast = _
    rw [h.opn, List.range_succ, List.dropLast_concat]
  · intro i nd hi
    have hi2 : (setFin s.nodes j s.nodes.length)[i]? = some nd := hi
    unfold setFin at hi2
    rw [List.getElem?_modify] at hi2
    cases hn : s.nodes[i]? with
    | none => rw [hn] at hi2; simp at hi2
    | some x =>
      rw [hn] at hi2
      simp only [Option.map_eq_map, Option.map_some, Option.some.injEq] at hi2
      have := h.names i x hn
      rw [← hi2]
      split
      · exact this
      · exact this
theorem shuts (j : Nat) : ∀ (n : Nat) (s : St) (f : Nat), Shut s n j → j ≤ n → s.rest = reps j [60, 47, 97, 62] → ∃ s', Shut s' n 0 ∧ s'.rest = [] ∧ partsS (j + f) s = partsS f s' := by
  induction j with
  | zero => intro n s f h _ hr; exact ⟨s, h, by simpa [reps] using hr, by simp⟩
  | succ j ih =>
    intro n s f h hj hr
    rw [reps_succ] at hr
    have hr' : s.rest = 60 :: 47 :: (97 :: 62 :: reps j [60, 47, 97, 62]) := by simpa using hr
    have hd : Shut { s with rest := 97 :: 62 :: reps j [60, 47, 97, 62] } n (j + 1) := ⟨h.text, h.len, h.opn, h.names⟩
    obtain ⟨s1, e1, d1, r1⟩ := shut_step _ n j _ hd (by omega) rfl
    obtain ⟨s', d', r', e'⟩ := ih n s1 f d1 (by omega) r1
    refine ⟨s', d', r', ?_⟩
    have hne : s.opn ≠ [] := by rw [h.opn]; intro e; have := congrArg List.length e; simp at this
    rw [show j + 1 + f = (j + f) + 1 by omega, partsS, if_neg hne, part_end s _ hr' h.text, e1]
    exact e'
def deepT (n : Nat) : L8 := reps n [60, 97, 62] ++ reps n [60, 47, 97, 62]
theorem doc_start (u : L8) : docL (60 :: 97 :: u) = match beginS (st0 (97 :: u)) with | .error e => .error e | .ok s => bodyL s := by
  rw [doc_eq]
  have h1 : headingL (60 :: 97 :: u) = some (60 :: 97 :: u) := rfl
  have h2 : betweenL ((60 :: 97 :: u).length + 1) (60 :: 97 :: u) = some (60 :: 97 :: u) := rfl
  rw [h1]
  simp only
  rw [h2]
  rfl
theorem deep_check (n : Nat) : checkL (deepT n).length (deepT n) = 0 := by
  refine check_ascii _ _ fun c hc => ?_
  unfold deepT at hc
  rcases List.mem_append.1 hc with hc | hc
  · have := reps_mem _ _ _ hc
    simp only [List.mem_cons, List.not_mem_nil, or_false] at this
    rcases this with rfl | rfl | rfl <;> decide
  · have := reps_mem _ _ _ hc
    simp only [List.mem_cons, List.not_mem_nil, or_false] at this
    rcases this with rfl | rfl | rfl | rfl <;> decide
theorem deep_len (n : Nat) : (deepT n).length = 7 * n := by unfold deepT; rw [List.length_append, reps_len, reps_len]; simp; omega
theorem deep_parse (n : Nat) (h1 : 1 ≤ n) (h2 : n ≤ 256) : if 100 < n then parseX (deepT n) = .error 12 else ∃ ns, parseX (deepT n) = .ok ns ∧ ns.length = n ∧ ∀ (i : Nat) (nd : Nd), ns[i]? = some nd → nd.level = (i : Int) := by
  obtain ⟨m, rfl⟩ : ∃ m, n = m + 1 := ⟨n - 1, by omega⟩
  have hp : parseX (deepT (m + 1)) = docL (deepT (m + 1)) := by
    unfold parseX
    rw [deep_len, if_neg (by omega), if_neg (by rw [← deep_len, deep_check]; simp)]
  have ht : deepT (m + 1) = 60 :: 97 :: (62 :: (reps m [60, 97, 62] ++ reps (m + 1) [60, 47, 97, 62])) := by unfold deepT; rw [reps_succ m [60, 97, 62]]; rfl
  have hd0 : Deep (st0 (97 :: 62 :: (reps m [60, 97, 62] ++ reps (m + 1) [60, 47, 97, 62]))) 0 := ⟨rfl, rfl, rfl, fun j nd h => by simp [st0] at h⟩
  obtain ⟨s1, e1, d1, r1⟩ := deep_step _ 0 _ hd0 (by omega) rfl
  have hdoc : docL (deepT (m + 1)) = bodyL s1 := by rw [ht, doc_start, e1]
  rw [hp, hdoc]
  have hl1 : s1.rest.length = 3 * m + 4 * (m + 1) := by rw [r1, List.length_append, reps_len, reps_len]; simp; omega
  split
  · rename_i hgt
    unfold bodyL
    rw [opens_over m 1 s1 _ _ d1 (by omega) (by omega) (by omega) (by omega) r1]
  · rename_i hle
    obtain ⟨s2, d2, r2, e2⟩ := opens m 1 s1 (reps (m + 1) [60, 47, 97, 62]) (s1.rest.length + 1 - m) d1 (by omega) (by omega) r1
    have hsh : Shut s2 (m + 1) (m + 1) := ⟨d2.text, by rw [d2.len]; omega, by rw [d2.opn, Nat.add_comm], d2.names⟩
    obtain ⟨s3, d3, r3, e3⟩ := shuts (m + 1) (m + 1) s2 (s1.rest.length + 1 - m - (m + 1)) hsh (Nat.le_refl _) r2
    have hb : bodyL s1 = .ok s3.nodes := by
      unfold bodyL
      rw [show s1.rest.length + 1 = m + (s1.rest.length + 1 - m) by omega, e2, show s1.rest.length + 1 - m = m + 1 + (s1.rest.length + 1 - m - (m + 1)) by omega, e3]
      obtain ⟨q, hq⟩ : ∃ q, s1.rest.length + 1 - m - (m + 1) = q + 1 := ⟨s1.rest.length + 1 - m - (m + 1) - 1, by omega⟩
      rw [hq, partsS, if_pos (by rw [d3.opn]; rfl)]
      simp only
      unfold lastL
      rw [r3]
      rfl
    exact ⟨s3.nodes, hb, d3.len, fun i nd h => (d3.names i nd h).2⟩
end Go.Proofs.YtbehfhdkdekjfaaDoor
