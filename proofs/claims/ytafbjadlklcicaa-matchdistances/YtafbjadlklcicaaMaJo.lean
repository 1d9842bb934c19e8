/- When lists of matches hold; And's answer whole; the law's holds. -/
import Derived.Test.YtafbjadlklcicaaMaLn
namespace Go.Proofs.Ytafbjadlklcicaa
open Go.RowKit
set_option maxRecDepth 100000

/-- append, at an operation that is wanted (guarded or not). -/
theorem wpList_appG {ops : Array Oper} {rest : List Oper} {o : Oper} {a : Act} {Q : Exit → Act → World → Prop} {tS tE : TypeId} {z : Value} {k by_ : Nat} (E : El tS tE z k by_) (w : World) (hwt : Region.wanted o (yielded ops a.tmps) = true) (s x : Operand)
    (ho : o.op = .call { callee := .builtin .append, args := #[s, x], argTypes := #[tS, tS] })
    (base : Nat) (v : Value) (n : Nat) (xs : List Value) (hs : a.eval s = v) (hown : w.ownsRow base tE k v n xs) (A : Option Addr) (m c B : Nat) (news : List Value) (hx : a.eval x = .slice A m c) (hnl : news.length = m * k) (hone : ∀ u ∈ news, u.oneCell' = true) (hm : CS w B A news)
    (N : Nat) (hN : n + m = N) (hlen : N ≤ 1000000) (hbase : base ≤ w.heap.size)
    (h : ∀ v' w', w'.ownsRow base tE k v' N (xs ++ news) → w.grownBy w' v.ownBlock → (v'.ownBlock = v.ownBlock ∨ v'.ownBlock = some w.heap.size) → wpList Try.prog ops Q rest (a.put o.dst v') w') : wpList Try.prog ops Q (o :: rest) a w := by
  subst hN
  unfold wpList
  rw [if_pos hwt]
  refine .inl ?_
  obtain ⟨v', w', hr, h2, h3, h4⟩ := run_appendR E w o.type base v n xs hown A m c B news hnl hone hm hlen hbase
  unfold Oper.wp execOp
  simp only [ho, resolve, invoke, builtin, Sem.run_bind, Sem.run_pure, Result.andThen_ok, List.map_toArray, List.map_cons, List.map_nil, hs, hx, hr]
  exact h v' w' h2 h3 h4
theorem holdsL_app (l m : List Mt) : holdsL (l ++ m) = (holdsL l || holdsL m) := by unfold holdsL; rw [List.any_append]
theorem holdsL_join (x : Mt) (ns : List Mt) : holdsL (ns.map (joinM x)) = (x.2.isEmpty && holdsL ns) := by
  unfold holdsL
  induction ns with
  | nil => simp
  | cons y t ih =>
    rw [List.map_cons, List.any_cons, ih, List.any_cons]
    unfold joinM
    cases hx : x.2 <;> cases hy : y.2 <;> simp
theorem holdsL_and (ms ns : List Mt) : holdsL (andL ms ns) = (holdsL ms && holdsL ns) := by
  induction ms with
  | nil => rfl
  | cons x t ih =>
    have e : andL (x :: t) ns = ns.map (joinM x) ++ andL t ns := rfl
    have e2 : holdsL (x :: t) = (x.2.isEmpty || holdsL t) := rfl
    rw [e, holdsL_app, holdsL_join, ih, e2]
    cases x.2.isEmpty <;> cases holdsL t <;> cases holdsL ns <;> rfl
theorem holdsL_turns (m : Mt) : holdsL (turns m) = !m.2.isEmpty := by
  unfold turns
  rw [holdsL_app]
  have h1 : holdsL (m.1.map fun s => (([] : List Sp), [s])) = false := by
    unfold holdsL
    rw [List.any_map]
    exact List.any_eq_false.2 fun s _ => by simp
  rw [h1]
  cases m.2 <;> simp [holdsL]
theorem holdsL_not (ms : List Mt) : holdsL (notL ms) = !holdsL ms := by
  refine snoc_ind (P := fun ms => holdsL (notL ms) = !holdsL ms) rfl (fun t m ih => ?_) ms
  rw [notL_snoc, holdsL_and, ih, holdsL_turns, holdsL_snoc, Bool.not_or]
def AndQ (w : World) (ms ns : List Mt) (e : Ending) (w' : World) : Prop := ∃ A N c er, e = .returned (.tuple #[.slice A N c, .int .i64 er]) ∧ ((ms.length * ns.length ≤ 400 ∧ er = 0 ∧ N = ms.length * ns.length ∧ MS w' w'.heap.size A (andL ms ns)) ∨ (400 < ms.length * ns.length ∧ er = 23 ∧ N = 0)) ∧ Below w.heap.size w w'
theorem good_sm {ms : List Mt} {k : Int} (h : goodB ms k = true) : (∀ m ∈ ms, m.1.length ≤ 5 ∧ m.2.length ≤ 5) ∧ (ms.length : Int) ≤ k := by
  unfold goodB at h
  rw [Bool.and_eq_true] at h
  refine ⟨fun m hm => ?_, of_decide_eq_true h.2⟩
  have := List.all_eq_true.1 h.1 m hm
  unfold okM at this
  rw [Bool.and_eq_true, Bool.and_eq_true] at this
  exact ⟨of_decide_eq_true this.1.1, of_decide_eq_true this.1.2⟩
end Go.Proofs.Ytafbjadlklcicaa
