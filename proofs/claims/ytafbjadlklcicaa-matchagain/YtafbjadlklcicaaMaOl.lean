/- MatchOrders: the law's own: two spans come as the question has them. -/
import Derived.Test.YtafbjadlklcicaaMaOd
namespace Go.Proofs.Ytafbjadlklcicaa
open Go.RowKit
set_option maxRecDepth 100000

/-- Two spans come as the question has them. -/
def inO (s t : Sp) : Bool := if t.2.2.1 < s.2.2.1 then decide (t.1 ≤ s.1) else (decide (s.2.2.1 = t.2.2.1) || decide (s.1 ≤ t.1))
set_option maxHeartbeats 4000000 in
theorem inO_any (s t : Sp) (w : World) : Calls Try.prog 9 #[spV s, spV t] w fun e w' => e = .returned (.bool (inO s t)) ∧ Below w.heap.size w w' := by
  obtain ⟨s0, s1, s2, s3⟩ := s
  obtain ⟨t0, t1, t2, t3⟩ := t
  unfold spV inO
  simp only
  have HB : Hid (∀ o p, Below w.heap.size w ((w.alloc o).alloc p)) := fun o p => ((Below.refl w.heap.size w).alloc (Nat.le_refl _) o).trans (((Below.refl _ _).alloc (Nat.le_refl _) p).mono (by simp))
  go_enter Try.func9, Try.ntmps9
  by_cases h1 : t2 < s2 <;> by_cases h2 : s2 = t2
  all_goals try (exfalso; omega)
  all_goals
    go_wp2_with fail
  all_goals
    go_ret
    refine ⟨?_, HB.out _ _⟩
    have h3 : t2 < s2 → (t2 == s2) = false := fun h => by rw [beq_eq_false_iff_ne]; omega
    simp [h1, h2, h3]
end Go.Proofs.Ytafbjadlklcicaa
