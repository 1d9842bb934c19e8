/- slices.IndexFunc at spans: the first one; slices.DeleteFunc at spans. -/
import Derived.Test.YtafbjadlklcicaaMaTo
import Derived.Test.YtafbjadlklcicaaMaIx
import Derived.Laws.EntriesVeiled
namespace Go.Proofs.Ytafbjadlklcicaa
open Go.RowKit
set_option maxRecDepth 100000

set_option maxHeartbeats 2000000 in
theorem sfirst_any (F : Nat) (cb : Array Value) (p : Sp → Bool) (A : Option Addr) (n c : Nat) (l : List Sp) (HN : Hid (n = l.length)) (hn : n ≤ 100000) (w : World) (h : CS w w.heap.size A (spCs l)) (hF : Hid (FnS F cb p w)) :
    Calls Try.prog 74 #[.slice A n c, .func (.func F) #[] cb] w fun e w' => ∃ r : Int, e = .returned (.int .i64 r) ∧ ((r = -1 ∧ l.any p = false) ∨ ∃ (k : Nat) (hk : k < l.length), r = (k : Int) ∧ p l[k] = true ∧ (l.take k).any p = false) ∧ Below w.heap.size w w' := by
  have HA := Lib.hid h
  have HCF := hF.out.1
  clear h
  go_enter Try.func74, Try.ntmps74
  go_wp2_with fail
  go_loopw [8] (fun i wr => ∃ k : Nat, k ≤ n ∧ i = .int .i64 k ∧ Hid ((l.take k).any p = false) ∧ Hid (Below w.heap.size w wr)) (fun i _ => n - (intOf i).toNat)
  case atStart => exact ⟨0, Nat.zero_le _, rfl, rfl, Below.refl _ _⟩
  case round =>
    obtain ⟨k, hk, rfl, HF, HB⟩ := hrel
    by_cases hlt : k < n
    · have hkl : k < l.length := by rw [← HN.out]; exact hlt
      have HLT := Lib.hid hlt
      obtain ⟨b, o, rfl, hb, hc⟩ := (HA.out.below HB.out) (by rw [spCs_len]; omega)
      obtain ⟨c0, c1, c2, c3⟩ := spCs_at l k hkl
      have e0 := hc _ _ c0
      have e1 := hc _ _ c1
      have e2 := hc _ _ c2
      have e3 := hc _ _ c3
      rw [← Nat.add_assoc] at e1 e2 e3
      have HS : Hid ((l.take (k + 1)).any p = p l[k]) := by show _ = _; rw [any_snoc' p l k hkl, HF.out, Bool.false_or]
      obtain ⟨q, hq⟩ : ∃ q, q = p l[k] := ⟨_, rfl⟩
      have HQ : Hid (p l[k] = q) := hq.symm
      obtain ⟨s, hs⟩ : ∃ s, s = l[k] := ⟨_, rfl⟩
      rw [← hq] at HS
      rw [← hs] at e0 e1 e2 e3 hq
      have KF := hF.out.2 wr HB.out s
      rw [← hq] at KF
      have HKF := Lib.hid KF
      have wk : IntKind.i64.wrap ((k : Int) + 1) = (k : Int) + 1 := by rw [IntKind.wrap_i64]; omega
      clear hc c0 c1 c2 c3 hs hb hq KF
      obtain ⟨f, t, u, v⟩ := s
      simp only at e0 e1 e2 e3 HKF
      go_wp2_with fail
      with_reducible refine HKF.out.mono ?_
      rintro e w5 ⟨rfl, b5⟩
      have HB5 := Lib.hid (HB.out.trans (b5.mono HB.out.size))
      clear b5 e0 e1 e2 e3
      cases q
      · have HT : Hid ((l.take (k + 1)).any p = false) := HS.out
        go_wp2_with fail
        exact ⟨⟨k + 1, HLT.out, by go_num, HT, HB5⟩, by have := HLT.out; simp [intOf]; omega⟩
      · have HKL := Lib.hid hkl
        go_wp2_with fail
        go_ret
        exact ⟨_, rfl, .inr ⟨k, HKL.out, rfl, HQ.out, HF.out⟩, HB5.out⟩
    · obtain rfl : k = n := by omega
      have HT : Hid (l.any p = false) := by show _ = _; rw [← HF.out, List.take_of_length_le (by rw [HN.out]; exact Nat.le_refl _)]
      go_wp2_with fail
      go_ret
      exact ⟨_, rfl, .inl ⟨rfl, HT.out⟩, HB.out⟩

/-- A function value that tells p of a span, whatever a row holds meanwhile, and leaves what lies there. -/
def FnD (F : Nat) (cb : Array Value) (p : Sp → Bool) (row : Option Nat) (w : World) : Prop :=
  (∀ args W, (callFunc F args).run Try.prog W = .ok (.enter F args) W) ∧
  ∀ W, w.grownBy W row → ∀ s, Calls Try.prog F (#[spV s] ++ cb) W fun e w' => e = .returned (.bool (p s)) ∧ Below W.heap.size W w'
theorem grown_below {w w' : World} {row : Option Nat} (h : Below w.heap.size w w') : w.grownBy w' row := ⟨h.os, h.tape, h.output, h.size, fun k hk _ => h.block k hk⟩
theorem grown_trans {w w1 w2 : World} {row : Option Nat} (h : w.grownBy w1 row) (k : w1.grownBy w2 row) : w.grownBy w2 row :=
  ⟨k.os.trans h.os, k.tape.trans h.tape, k.output.trans h.output, Nat.le_trans h.size k.size, fun i hi hne => (k.block i (Nat.lt_of_lt_of_le hi h.size) hne).trans (h.block i hi hne)⟩
theorem FnD.s {F : Nat} {cb : Array Value} {p : Sp → Bool} {row : Option Nat} {w : World} (h : FnD F cb p row w) : FnS F cb p w := ⟨h.1, fun W hW s => h.2 W (grown_below hW) s⟩
/-- One element of a row of spans is stored. -/
theorem stored4 {w : World} {base g n c : Nat} {l : List Sp} (h : w.ownsRow base 26 4 (.slice (some ⟨g, 0, none⟩) n c) n (spCs l)) (i : Nat) (hi : i < l.length) (s : Sp) :
    ((((w.setCell ⟨g, i * 4, none⟩ (.int .i64 s.1)).setCell ⟨g, i * 4 + 1, none⟩ (.int .i64 s.2.1)).setCell ⟨g, i * 4 + 2, none⟩ (.int .i64 s.2.2.1)).setCell ⟨g, i * 4 + 3, none⟩ (.int .i64 s.2.2.2)).ownsRow base 26 4 (.slice (some ⟨g, 0, none⟩) n c) n (spCs (l.set i s)) ∧
    w.grownBy ((((w.setCell ⟨g, i * 4, none⟩ (.int .i64 s.1)).setCell ⟨g, i * 4 + 1, none⟩ (.int .i64 s.2.1)).setCell ⟨g, i * 4 + 2, none⟩ (.int .i64 s.2.2.1)).setCell ⟨g, i * 4 + 3, none⟩ (.int .i64 s.2.2.2)) (some g) := by
  obtain ⟨h0, g0⟩ := h.stored (i * 4) (.int .i64 s.1)
  obtain ⟨h1, g1⟩ := h0.stored (i * 4 + 1) (.int .i64 s.2.1)
  obtain ⟨h2, g2⟩ := h1.stored (i * 4 + 2) (.int .i64 s.2.2.1)
  obtain ⟨h3, g3⟩ := h2.stored (i * 4 + 3) (.int .i64 s.2.2.2)
  refine ⟨?_, grown_trans g0 (grown_trans g1 (grown_trans g2 g3))⟩
  have e : ∀ (l : List Sp) (i : Nat), i < l.length → ((((spCs l).set (i * 4) (.int .i64 s.1)).set (i * 4 + 1) (.int .i64 s.2.1)).set (i * 4 + 2) (.int .i64 s.2.2.1)).set (i * 4 + 3) (.int .i64 s.2.2.2) = spCs (l.set i s) := by
    intro l
    induction l with
    | nil => intro i h; simp at h
    | cons t l ih =>
      intro i h
      cases i with
      | zero => rfl
      | succ i =>
        have := ih i (by simpa using h)
        rw [List.set_cons_succ, spCs_cons, spCs_cons, ← this]
        rw [show (i + 1) * 4 = i * 4 + 4 by omega, show i * 4 + 4 + 1 = i * 4 + 1 + 4 by omega, show i * 4 + 4 + 2 = i * 4 + 2 + 4 by omega, show i * 4 + 4 + 3 = i * 4 + 3 + 4 by omega]
        simp [spC]
  rw [← e l i hi]
  exact h3
theorem own_setCells {base g n c : Nat} {t : TypeId} {size : Nat} : ∀ (vs : List Value) (o : Nat) (w : World) (xs : List Value), w.ownsRow base t size (.slice (some ⟨g, 0, none⟩) n c) n xs →
    ∃ ys, (w.setCells g o vs).ownsRow base t size (.slice (some ⟨g, 0, none⟩) n c) n ys ∧ ys.take o = xs.take o ∧ w.grownBy (w.setCells g o vs) (some g)
  | [], _, w, xs, h => ⟨xs, h, rfl, World.grownBy.refl _ _⟩
  | v :: vs, o, w, xs, h => by
    obtain ⟨h1, g1⟩ := h.stored o v
    obtain ⟨ys, h2, e, g2⟩ := own_setCells vs (o + 1) _ _ h1
    refine ⟨ys, h2, ?_, grown_trans g1 g2⟩
    have := congrArg (List.take o) e
    rw [List.take_take, List.take_take, Nat.min_eq_left (Nat.le_succ o)] at this
    rw [this, List.take_set_of_le (Nat.le_refl o)]
/-- The first ones of a row. -/
theorem own_cut {w : World} {base g n c m : Nat} {t : TypeId} {size : Nat} {xs : List Value} (h : w.ownsRow base t size (.slice (some ⟨g, 0, none⟩) n c) n xs) (hm : m ≤ n) : w.ownsRow base t size (.slice (some ⟨g, 0, none⟩) m c) m (xs.take (m * size)) := by
  have hl := h.1
  have hms : m * size ≤ n * size := Nat.mul_le_mul_right _ hm
  refine ⟨by rw [List.length_take, hl]; omega, ?_⟩
  rcases h.2 with ⟨h', _⟩ | ⟨g', cap', cur, h', hb, hg, hnc, hcm, hcs, ht⟩
  · simp at h'
  · simp only [Value.slice.injEq, Option.some.injEq, Addr.mk.injEq, and_true, true_and] at h'
    obtain ⟨rfl, rfl⟩ := h'
    refine .inr ⟨g, c, cur, rfl, hb, hg, by omega, hcm, hcs, ?_⟩
    rw [← ht, List.take_take, Nat.min_eq_left hms]
/-- 'clear(s)' of spans. -/
theorem run_clear4 (w : World) (ty : TypeId) (b o n c : Nat) (hn : 0 < n) (hc : ∀ j, j < n * 4 → (w.cell? ⟨b, o + j, none⟩).isSome = true) (hf : ∀ j, j < n * 4 → w.frozen? ⟨b, o + j, none⟩ = false) :
    ∃ vs, vs.length = n * 4 ∧ (Builtin.clear_ #[28] ty #[.slice (some ⟨b, o, none⟩) n c]).run Try.prog w = .ok (.tuple #[]) (w.setCells b o vs) := by
  refine ⟨(Builtin.zeroCells #[.int .i64 0, .int .i64 0, .int .i64 0, .int .i64 0] n).toList, by simp [Builtin.zeroCells], ?_⟩
  have hst := run_storeCells_cells (P := Try.prog) b o (Builtin.zeroCells #[.int .i64 0, .int .i64 0, .int .i64 0, .int .i64 0] n).toList 0 w (fun j hj => by rw [Nat.add_zero]; exact hc j (by simpa [Builtin.zeroCells] using hj)) (fun j hj => by rw [Nat.add_zero]; exact hf j (by simpa [Builtin.zeroCells] using hj)) (fun v hv => by
    simp only [Builtin.zeroCells, Array.toList_map, List.mem_map] at hv
    obtain ⟨i, _, rfl⟩ := hv
    have : i % 4 = 0 ∨ i % 4 = 1 ∨ i % 4 = 2 ∨ i % 4 = 3 := by omega
    rcases this with h | h | h | h <;> simp [h, Value.oneCell'])
  rw [Nat.add_zero] at hst
  obtain ⟨m, rfl⟩ : ∃ m, n = m + 1 := ⟨n - 1, by omega⟩
  simp [Builtin.clear_, run_underlying Try.underlying28, Value.cells, hst]
end Go.Proofs.Ytafbjadlklcicaa
