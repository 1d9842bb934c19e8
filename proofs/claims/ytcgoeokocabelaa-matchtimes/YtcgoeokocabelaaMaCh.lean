/- Choices of so many: plain; each one behind the other. -/
import Derived.Test.YtcgoeokocabelaaMaNl
namespace Go.Proofs.Ytcgoeokocabelaa
open Go.RowKit

/-- All choices of n numbers below 'of', rising, from lo on, in their order. -/
def allF (of : Nat) : Nat → Nat → List (List Nat)
  | 0, _ => [[]]
  | n + 1, lo => (List.range' lo (of - lo)).flatMap fun i => (allF of n (i + 1)).map (i :: ·)
/-- This choice and those behind it. -/
def suf (of : Nat) : List Nat → List (List Nat)
  | [] => [[]]
  | i :: t => (suf of t).map (i :: ·) ++ (List.range' (i + 1) (of - (i + 1))).flatMap fun j => (allF of t.length (j + 1)).map (j :: ·)
def nextL (of : Nat) : List Nat → Option (List Nat)
  | [] => none
  | i :: t => match nextL of t with
    | some t' => some (i :: t')
    | none => if i + (t.length + 1) = of then none else some (List.range' (i + 1) (t.length + 1))
def okC (of : Nat) : List Nat → Prop
  | [] => True
  | i :: t => i + (t.length + 1) ≤ of ∧ okC of t
theorem allF_succ (of n lo : Nat) : allF of (n + 1) lo = (List.range' lo (of - lo)).flatMap fun i => (allF of n (i + 1)).map (i :: ·) := rfl
theorem suf_cons (of i : Nat) (t : List Nat) : suf of (i :: t) = (suf of t).map (i :: ·) ++ (List.range' (i + 1) (of - (i + 1))).flatMap fun j => (allF of t.length (j + 1)).map (j :: ·) := rfl
theorem flatMap_nil' {α β : Type} (f : α → List β) : ∀ l : List α, (∀ x ∈ l, f x = []) → l.flatMap f = []
  | [], _ => rfl
  | x :: t, h => by
    rw [List.flatMap_cons, h x (List.mem_cons_self ..), List.nil_append]
    exact flatMap_nil' f t fun y hy => h y (List.mem_cons_of_mem _ hy)
theorem allF_none (of : Nat) : ∀ (n lo : Nat), 0 < n → of < lo + n → allF of n lo = []
  | 0, _, h, _ => absurd h (Nat.lt_irrefl _)
  | n + 1, lo, _, h => by
    unfold allF
    refine flatMap_nil' _ _ fun j hj => ?_
    have hj' := List.mem_range'_1.1 hj
    rcases Nat.eq_zero_or_pos n with h0 | h0
    · omega
    · rw [allF_none of n (j + 1) h0 (by omega)]; rfl
theorem okC_range (of : Nat) : ∀ (n lo : Nat), lo + n ≤ of → okC of (List.range' lo n)
  | 0, _, _ => trivial
  | n + 1, lo, h => by
    rw [List.range'_succ]
    exact ⟨by rw [List.length_range']; omega, okC_range of n (lo + 1) (by omega)⟩
theorem suf_first (of : Nat) : ∀ (n lo : Nat), lo + n ≤ of → suf of (List.range' lo n) = allF of n lo
  | 0, _, _ => rfl
  | n + 1, lo, h => by
    rw [List.range'_succ]
    have e : of - lo = of - (lo + 1) + 1 := by omega
    rw [suf_cons, allF_succ, suf_first of n (lo + 1) (by omega), List.length_range', e, List.range'_succ, List.flatMap_cons]
theorem next_suf (of : Nat) : ∀ c : List Nat, okC of c → (∀ c', nextL of c = some c' → suf of c = c :: suf of c' ∧ okC of c' ∧ c'.length = c.length) ∧ (nextL of c = none → suf of c = [c])
  | [], _ => ⟨fun c' h => by simp [nextL] at h, fun _ => rfl⟩
  | i :: t, h => by
    obtain ⟨ih1, ih2⟩ := next_suf of t h.2
    have h1 := h.1
    cases hn : nextL of t with
    | some t' =>
      obtain ⟨e1, e2, e3⟩ := ih1 t' hn
      refine ⟨fun c' hc => ?_, fun hc => ?_⟩
      · have : c' = i :: t' := by simp [nextL, hn] at hc; exact hc.symm
        subst this
        refine ⟨?_, ⟨by rw [e3]; exact h1, e2⟩, by simp [e3]⟩
        rw [suf_cons, e1, suf_cons, e3]
        simp
      · simp [nextL, hn] at hc
    | none =>
      have es := ih2 hn
      refine ⟨fun c' hc => ?_, fun hc => ?_⟩
      · by_cases he : i + (t.length + 1) = of
        · simp [nextL, hn, he] at hc
        · have : c' = List.range' (i + 1) (t.length + 1) := by simp only [nextL, hn, he, if_false, Option.some.injEq] at hc; exact hc.symm
          subst this
          refine ⟨?_, okC_range of _ _ (by omega), by simp⟩
          rw [suf_first of _ _ (by omega)]
          rw [suf_cons, es]
          rfl
      · by_cases he : i + (t.length + 1) = of
        · rw [suf_cons, es]
          rw [flatMap_nil' _ _ fun j hj => ?_]
          · rfl
          · have hj' := List.mem_range'_1.1 hj
            rw [allF_none of _ _ (by omega) (by omega)]; rfl
        · simp [nextL, hn, he] at hc
/-- One match of all that are chosen. -/
def joinI (a : List Mt) (s : Mt) (i : Nat) : Mt := let m := a.getD i ([], []); (s.1 ++ m.1, s.2 ++ m.2)
def chM (a : List Mt) (c : List Nat) : Mt := c.foldl (joinI a) ([], [])
def someL (a : List Mt) (n : Nat) : List Mt := (allF a.length n 0).map (chM a)
theorem chM_snoc (a : List Mt) (c : List Nat) (i : Nat) : chM a (c ++ [i]) = joinI a (chM a c) i := by unfold chM; rw [List.foldl_append]; rfl
theorem allF_seven : ∀ of : Fin 8, ∀ n : Fin 8, (allF of.val n.val 0).length ≤ 35 := by decide +kernel
theorem allF_mem (of : Nat) : ∀ (n lo : Nat) (c : List Nat), c ∈ allF of n lo → c.length = n ∧ ∀ i ∈ c, i < of
  | 0, _, c, h => by
    rw [List.mem_singleton.1 h]
    exact ⟨rfl, fun i hi => by cases hi⟩
  | n + 1, lo, c, h => by
    unfold allF at h
    obtain ⟨i, hi, h⟩ := List.mem_flatMap.1 h
    obtain ⟨t, ht, rfl⟩ := List.mem_map.1 h
    obtain ⟨h1, h2⟩ := allF_mem of n (i + 1) t ht
    have := List.mem_range'_1.1 hi
    exact ⟨by rw [List.length_cons, h1], fun j hj => (List.mem_cons.1 hj).elim (fun e => by omega) (h2 j)⟩
end Go.Proofs.Ytcgoeokocabelaa
