/- When lists of matches hold; And's answer whole; the law's holds. -/
import Derived.Test.YtcgoeokocabelaaMaLn
namespace Go.Proofs.Ytcgoeokocabelaa
open Go.RowKit
set_option maxRecDepth 100000

/-- append, at an operation that is wanted (guarded or not). -/
theorem wpList_appG {ops : Array Oper} {rest : List Oper} {o : Oper} {a : Act} {Q : Exit → Act → World → Prop} {tS tE : TypeId} {z : Value} {k by_ : Nat} (E : El tS tE z k by_) (w : World) (hwt : Region.wanted o (yielded ops a.tmps) = true) (s x : Operand)
    (ho : o.op = .call { callee := .builtin .append, args := #[s, x], argTypes := #[tS, tS] })
    (base : Nat) (v : Value) (n : Nat) (xs : List Value) (hs : a.eval s = v) (hown : w.ownsRow base tE k v n xs) (A : Option Addr) (m c B : Nat) (news : List Value) (hx : a.eval x = .slice A m c) (hnl : news.length = m * k) (hone : ∀ u ∈ news, u.oneCell' = true) (hm : CS w B A news)
    (N : Nat) (hN : n + m = N) (hlen : N ≤ 1000000) (hbase : base ≤ w.heap.size)
    (h : ∀ v' w', w'.ownsRow base tE k v' N (xs ++ news) → w.grownBy w' v.ownBlock → (v'.ownBlock = v.ownBlock ∨ v'.ownBlock = some w.heap.size) → wpList Try.prog ops Q rest (a.put o.dst v') w') : wpList Try.prog ops Q (o :: rest) a w := by
  subst hN
  unfold wpList
  rw [if_pos hwt]
  refine .inl ?_
  obtain ⟨v', w', hr, h2, h3, h4⟩ := run_appendR E w o.type base v n xs hown A m c B news hnl hone hm hlen hbase
  unfold Oper.wp execOp
  simp only [ho, resolve, invoke, builtin, Sem.run_bind, Sem.run_pure, Result.andThen_ok, List.map_toArray, List.map_cons, List.map_nil, hs, hx, hr]
  exact h v' w' h2 h3 h4
theorem holdsL_app (l m : List Mt) : holdsL (l ++ m) = (holdsL l || holdsL m) := by unfold holdsL; rw [List.any_append]
theorem holdsL_join (x : Mt) (ns : List Mt) : holdsL (ns.map (joinM x)) = (x.2.isEmpty && holdsL ns) := by
  unfold holdsL
  induction ns with
  | nil => simp
  | cons y t ih =>
    rw [List.map_cons, List.any_cons, ih, List.any_cons]
    unfold joinM
    cases hx : x.2 <;> cases hy : y.2 <;> simp
theorem holdsL_and (ms ns : List Mt) : holdsL (andL ms ns) = (holdsL ms && holdsL ns) := by
  induction ms with
  | nil => rfl
  | cons x t ih =>
    have e : andL (x :: t) ns = ns.map (joinM x) ++ andL t ns := rfl
    have e2 : holdsL (x :: t) = (x.2.isEmpty || holdsL t) := rfl
    rw [e, holdsL_app, holdsL_join, ih, e2]
    cases x.2.isEmpty <;> cases holdsL t <;> cases holdsL ns <;> rfl
theorem holdsL_turns (m : Mt) : holdsL (turns m) = !m.2.isEmpty := by
  unfold turns
  rw [holdsL_app]
  have h1 : holdsL (m.1.map fun s => (([] : List Sp), [s])) = false := by
    unfold holdsL
    rw [List.any_map]
    exact List.any_eq_false.2 fun s _ => by simp
  rw [h1]
  cases m.2 <;> simp [holdsL]
theorem holdsL_not (ms : List Mt) : holdsL (notL ms) = !holdsL ms := by
  refine snoc_ind (P := fun ms => holdsL (notL ms) = !holdsL ms) rfl (fun t m ih => ?_) ms
  rw [notL_snoc, holdsL_and, ih, holdsL_turns, holdsL_snoc, Bool.not_or]
def AndQ (w : World) (ms ns : List Mt) (e : Ending) (w' : World) : Prop := ∃ A N c er, e = .returned (.tuple #[.slice A N c, .int .i64 er]) ∧ ((ms.length * ns.length ≤ 400 ∧ er = 0 ∧ N = ms.length * ns.length ∧ MS w' w'.heap.size A (andL ms ns)) ∨ (400 < ms.length * ns.length ∧ er = 23 ∧ N = 0)) ∧ Below w.heap.size w w'
theorem and_all (A1 A2 : Option Addr) (n1 c1 n2 c2 : Nat) (ms ns : List Mt) (h1 : n1 = ms.length) (h2 : n2 = ns.length) (l1 : n1 ≤ 1000000) (s1 : smM ms) (s2 : smM ns) (w : World) (k1 : MS w w.heap.size A1 ms) (k2 : MS w w.heap.size A2 ns) :
    Calls Try.prog 16 #[.slice A1 n1 c1, .slice A2 n2 c2] w (AndQ w ms ns) := by
  rcases Nat.eq_zero_or_pos n1 with h0 | h0
  · have e0 : ms = [] := List.eq_nil_of_length_eq_zero (by omega)
    subst e0
    subst h0
    refine (and_none A1 A2 c1 n2 c2 w).mono ?_
    rintro e w' ⟨rfl, b⟩
    exact ⟨none, 0, 0, 0, rfl, .inl ⟨by simp, rfl, by simp, MS.nil _ _ _⟩, b⟩
  · by_cases h : n1 * n2 ≤ 400
    · refine (and_any A1 A2 n1 c1 n2 c2 ms ns ⟨h1, h2⟩ h0 h l1 ⟨s1, s2⟩ w k1 k2).mono ?_
      rintro e w' ⟨v, zs, rfl, hmk⟩
      obtain ⟨A, c, rfl, _, _, hm⟩ := hmk.out
      exact ⟨A, _, c, 0, rfl, .inl ⟨by rw [← h1, ← h2]; exact h, rfl, andL_len ms ns, hm⟩, hmk.kb⟩
    · refine (and_many A1 A2 n1 c1 n2 c2 h0 l1 (by omega) w).mono ?_
      rintro e w' ⟨rfl, b⟩
      exact ⟨none, 0, 0, 23, rfl, .inr ⟨by rw [← h1, ← h2]; omega, rfl, rfl⟩, b⟩
theorem good_sm {ms : List Mt} {k : Int} (h : goodB ms k = true) : (∀ m ∈ ms, m.1.length ≤ 5 ∧ m.2.length ≤ 5) ∧ (ms.length : Int) ≤ k := by
  unfold goodB at h
  rw [Bool.and_eq_true] at h
  refine ⟨fun m hm => ?_, of_decide_eq_true h.2⟩
  have := List.all_eq_true.1 h.1 m hm
  unfold okM at this
  rw [Bool.and_eq_true, Bool.and_eq_true] at this
  exact ⟨of_decide_eq_true this.1.1, of_decide_eq_true this.1.2⟩
set_option maxHeartbeats 1000000 in
theorem lholds_any (A : Option Addr) (n c : Nat) (ms : List Mt) (HN : Hid (n = ms.length)) (hn : n ≤ 100000) (w : World) (h : MS w w.heap.size A ms) :
    Calls Try.prog 20 #[.slice A n c] w fun e w' => e = .returned (.bool (holdsL ms)) ∧ Below w.heap.size w w' := by
  have HA := Lib.hid h
  clear h
  go_enter Try.func20, Try.ntmps20
  go_wp2_with fail
  go_loopw [7] (fun i wr => ∃ k : Nat, k ≤ n ∧ i = .int .i64 k ∧ Hid (holdsL (ms.take k) = false) ∧ Below w.heap.size w wr) (fun i _ => n - (intOf i).toNat)
  case atStart => exact ⟨0, Nat.zero_le _, rfl, rfl, Below.refl _ _⟩
  case round =>
    obtain ⟨k, hk, rfl, HF, hb⟩ := hrel
    have HB := Lib.hid hb
    by_cases hlt : k < n
    · have hkl : k < ms.length := by rw [← HN.out]; exact hlt
      have HLT := Lib.hid hlt
      obtain ⟨b, o, z0, z1, rfl, _, e0, e1, y0, y1⟩ := (HA.out.below hb).at_ k hkl
      obtain ⟨S0, d0, rfl, _⟩ := id y0
      obtain ⟨S1, d1, rfl, _⟩ := id y1
      have HS : Hid (holdsL (ms.take (k + 1)) = decide (ms[k].2.length = 0)) := by
        show _ = _
        rw [List.take_succ_eq_append_getElem hkl, holdsL_snoc, HF.out, Bool.false_or]
        cases ms[k].2 <;> simp
      obtain ⟨m, hm⟩ : ∃ m, m = ms[k] := ⟨_, rfl⟩
      rw [← hm] at e0 e1 HS
      obtain ⟨l0, hl0⟩ : ∃ l, l = m.1.length := ⟨_, rfl⟩
      obtain ⟨l1, hl1⟩ : ∃ l, l = m.2.length := ⟨_, rfl⟩
      rw [← hl0] at e0
      rw [← hl1] at e1 HS
      obtain ⟨c0, c1⟩ := box2 wr (.slice S0 l0 d0) (.slice S1 l1 d1) 34
      have hbx : Below w.heap.size w (wr.alloc (.cells #[.slice S0 l0 d0, .slice S1 l1 d1] 34)) := hb.alloc hb.size _
      have HBX := Lib.hid hbx
      have wk : IntKind.i64.wrap ((k : Int) + 1) = (k : Int) + 1 := by rw [IntKind.wrap_i64]; omega
      clear hb hl0 hl1 hm hbx y0 y1
      by_cases hz : l1 = 0
      · subst hz
        have hzb : (((0 : Nat) : Int) == 0) = true := rfl
        have HT : Hid (holdsL ms = true) := by
          show _ = _
          rw [← List.take_append_drop (k + 1) ms, holdsL_app, HS.out, decide_eq_true rfl, Bool.true_or]
        go_wp2_with fail
        go_ret
        exact ⟨by rw [HT.out]; rfl, HBX.out⟩
      · have hzb : ((l1 : Int) == 0) = false := by simp; omega
        have HT : Hid (holdsL (ms.take (k + 1)) = false) := by show _ = _; rw [HS.out, decide_eq_false hz]
        go_wp2_with fail
        exact ⟨⟨k + 1, HLT.out, by go_num, HT, HBX.out⟩, by have := HLT.out; simp [intOf]; omega⟩
    · obtain rfl : k = n := by omega
      have HT : Hid (holdsL ms = false) := by show _ = _; rw [← HF.out, List.take_of_length_le (by rw [HN.out]; exact Nat.le_refl _)]
      go_wp2_with fail
      go_ret
      exact ⟨by rw [HT.out]; rfl, HB.out⟩
end Go.Proofs.Ytcgoeokocabelaa
