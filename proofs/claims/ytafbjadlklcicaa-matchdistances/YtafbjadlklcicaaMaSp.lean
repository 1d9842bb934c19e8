/- Whether two lists of spans, of matches, are the same. -/
import Derived.Test.YtafbjadlklcicaaMaHd
import Derived.Laws.StructEq
namespace Go.Proofs.Ytafbjadlklcicaa
open Go.RowKit
set_option maxRecDepth 100000

theorem neq_sp (f t p q f' t' p' q' : Int) (w : World) : (binOp .neq 26 (.agg #[.int .i64 f, .int .i64 t, .int .i64 p, .int .i64 q]) (.agg #[.int .i64 f', .int .i64 t', .int .i64 p', .int .i64 q'])).run Try.prog w = .ok (.bool (decide ((f, t, p, q) ≠ (f', t', p', q')))) w := by
  have hS : Try.prog.underlying 26 = some (.struct (Try.prog.fieldsOf 26)) := by kernel_rfl
  have hp : Try.prog.stoodInHeld 26 = false := by kernel_rfl
  have u3 := Try.underlying3
  have a3 := Try.isAgg3
  have z3 := Try.sizeOf3
  rw [run_neq_struct, show (10000 : Nat) = 9999 + 1 from rfl, run_equalIn_agg w 9999 26 _ _ hS hp]
  simp only [Program.fieldsOf, Try.underlying26]
  go_simp
  by_cases h1 : f = f' <;> by_cases h2 : t = t' <;> by_cases h3 : p = p' <;> by_cases h4 : q = q' <;> simp [h1, h2, h3, h4]
set_option maxHeartbeats 4000000 in
theorem spans_any (A1 A2 : Option Addr) (n1 c1 n2 c2 : Nat) (xs ys : List Sp) (H1 : Hid (n1 = xs.length)) (H2 : Hid (n2 = ys.length)) (hn : n1 ≤ 1000000) (w : World) (h1 : CS w w.heap.size A1 (spCs xs)) (h2 : CS w w.heap.size A2 (spCs ys)) :
    Calls Try.prog 35 #[.slice A1 n1 c1, .slice A2 n2 c2] w fun e w' => e = .returned (.bool (decide (xs = ys))) ∧ Below w.heap.size w w' := by
  obtain ⟨R, hR⟩ : ∃ R, R = decide (xs = ys) := ⟨_, rfl⟩
  rw [← hR]
  have HR := Lib.hid hR
  have HC1 := Lib.hid h1
  have HC2 := Lib.hid h2
  have hmx : Try.prog.follows .mixedOrders = true := by kernel_rfl
  clear hR h1 h2
  go_enter Try.func35, Try.ntmps35
  by_cases hl : n1 = n2
  · subst hl
    have HLN : Hid (xs.length = ys.length) := by show _ = _; rw [← H1.out, ← H2.out]
    go_wp2_with fail
    go_loopw [13] (fun i wr => ∃ j : Nat, j ≤ n1 ∧ i = .int .i64 j ∧ Hid (xs.take j = ys.take j) ∧ Below w.heap.size w wr) (fun i _ => n1 - (intOf i).toNat)
    case atStart => exact ⟨0, Nat.zero_le _, rfl, rfl, Below.refl _ _⟩
    case round =>
      obtain ⟨j, hj, rfl, HJ, hb⟩ := hrel
      have HB := Lib.hid hb
      by_cases hlt : j < n1
      · have hjx : j < xs.length := by rw [← H1.out]; exact hlt
        have hjy : j < ys.length := by rw [← HLN.out]; exact hjx
        have HLT := Lib.hid hlt
        obtain ⟨q1, o1, rfl, _, r1⟩ := (HC1.out.below hb) (by rw [spCs_len]; omega)
        obtain ⟨q2, o2, rfl, _, r2⟩ := (HC2.out.below hb) (by rw [spCs_len]; omega)
        obtain ⟨a0, a1, a2, a3⟩ := spCs_at xs j hjx
        obtain ⟨b0, b1, b2, b3⟩ := spCs_at ys j hjy
        have x0 := r1 _ _ a0
        have x1 := r1 _ _ a1
        have x2 := r1 _ _ a2
        have x3 := r1 _ _ a3
        have y0 := r2 _ _ b0
        have y1 := r2 _ _ b1
        have y2 := r2 _ _ b2
        have y3 := r2 _ _ b3
        rw [← Nat.add_assoc] at x1 x2 x3 y1 y2 y3
        have HT : Hid (xs[j] = ys[j] → xs.take (j + 1) = ys.take (j + 1)) := fun e => by rw [List.take_add_one, List.take_add_one, HJ.out, List.getElem?_eq_getElem hjx, List.getElem?_eq_getElem hjy, e]
        have HF : Hid (xs[j] ≠ ys[j] → xs ≠ ys) := fun e k => by subst k; exact e rfl
        obtain ⟨x, hx⟩ : ∃ x, x = xs[j] := ⟨_, rfl⟩
        obtain ⟨y, hy⟩ : ∃ y, y = ys[j] := ⟨_, rfl⟩
        rw [← hx] at x0 x1 x2 x3
        rw [← hy] at y0 y1 y2 y3
        rw [← hx, ← hy] at HT HF
        obtain ⟨f, t, p, q⟩ := x
        obtain ⟨f', t', p', q'⟩ := y
        simp only at x0 x1 x2 x3 y0 y1 y2 y3
        have z0 : ∀ r : WB wr.heap.size wr, r.w.cell? ⟨q1, o1 + j * 4, none⟩ = some (.int .i64 f) := fun r => (r.ok.cell (World.block_lt_of_cell? wr _ x0)).trans x0
        have z1 : ∀ r : WB wr.heap.size wr, r.w.cell? ⟨q1, o1 + j * 4 + 1, none⟩ = some (.int .i64 t) := fun r => (r.ok.cell (World.block_lt_of_cell? wr _ x1)).trans x1
        have z2 : ∀ r : WB wr.heap.size wr, r.w.cell? ⟨q1, o1 + j * 4 + 2, none⟩ = some (.int .i64 p) := fun r => (r.ok.cell (World.block_lt_of_cell? wr _ x2)).trans x2
        have z3 : ∀ r : WB wr.heap.size wr, r.w.cell? ⟨q1, o1 + j * 4 + 3, none⟩ = some (.int .i64 q) := fun r => (r.ok.cell (World.block_lt_of_cell? wr _ x3)).trans x3
        have u0 : ∀ r : WB wr.heap.size wr, r.w.cell? ⟨q2, o2 + j * 4, none⟩ = some (.int .i64 f') := fun r => (r.ok.cell (World.block_lt_of_cell? wr _ y0)).trans y0
        have u1 : ∀ r : WB wr.heap.size wr, r.w.cell? ⟨q2, o2 + j * 4 + 1, none⟩ = some (.int .i64 t') := fun r => (r.ok.cell (World.block_lt_of_cell? wr _ y1)).trans y1
        have u2 : ∀ r : WB wr.heap.size wr, r.w.cell? ⟨q2, o2 + j * 4 + 2, none⟩ = some (.int .i64 p') := fun r => (r.ok.cell (World.block_lt_of_cell? wr _ y2)).trans y2
        have u3 : ∀ r : WB wr.heap.size wr, r.w.cell? ⟨q2, o2 + j * 4 + 3, none⟩ = some (.int .i64 q') := fun r => (r.ok.cell (World.block_lt_of_cell? wr _ y3)).trans y3
        have wj : IntKind.i64.wrap ((j : Int) + 1) = (j : Int) + 1 := by rw [IntKind.wrap_i64]; omega
        clear r1 r2 a0 a1 a2 a3 b0 b1 b2 b3 x0 x1 x2 x3 y0 y1 y2 y3 hx hy hb
        by_cases hxy : (f, t, p, q) = (f', t', p', q')
        · have HTN := Lib.hid (HT.out hxy)
          have hne : ∀ W : World, (binOp .neq 26 (.agg #[.int .i64 f, .int .i64 t, .int .i64 p, .int .i64 q]) (.agg #[.int .i64 f', .int .i64 t', .int .i64 p', .int .i64 q'])).run Try.prog W = .ok (.bool false) W := fun W => by rw [neq_sp, decide_eq_false fun h => h hxy]
          clear hxy
          go_wp2_with fail
          refine wp_region_quietB wr.heap.size wr hmx (by kernel_rfl) (Below.refl _ _) ?_
          repeat (go_big_quiet_step (fail))
          refine wpQuiet_nil ?_
          intro _ hw'
          obtain ⟨pq, rfl⟩ := hw'
          go_wp2_with fail
          exact ⟨⟨j + 1, HLT.out, by go_num, HTN, HB.out.trans (pq.ok.mono HB.out.size)⟩, by have := HLT.out; simp [intOf]; omega⟩
        · have HRF : Hid (R = false) := by show _ = _; rw [HR.out]; exact decide_eq_false (HF.out hxy)
          have hne : ∀ W : World, (binOp .neq 26 (.agg #[.int .i64 f, .int .i64 t, .int .i64 p, .int .i64 q]) (.agg #[.int .i64 f', .int .i64 t', .int .i64 p', .int .i64 q'])).run Try.prog W = .ok (.bool true) W := fun W => by rw [neq_sp, decide_eq_true hxy]
          clear hxy
          go_wp2_with fail
          refine wp_region_quietB wr.heap.size wr hmx (by kernel_rfl) (Below.refl _ _) ?_
          repeat (go_big_quiet_step (fail))
          refine wpQuiet_nil ?_
          intro _ hw'
          obtain ⟨pq, rfl⟩ := hw'
          go_wp2_with fail
          go_ret
          exact ⟨by rw [HRF.out]; rfl, HB.out.trans (pq.ok.mono HB.out.size)⟩
      · have HE : Hid (R = true) := by
          have e := HJ.out
          rw [List.take_of_length_le (by rw [← H1.out]; omega), List.take_of_length_le (by rw [← HLN.out, ← H1.out]; omega)] at e
          show _ = _
          rw [HR.out]
          exact decide_eq_true e
        have hji : ¬ (j : Int) < (n1 : Int) := by omega
        go_wp2_with fail
        go_ret
        exact ⟨by rw [HE.out]; rfl, HB.out⟩
  · have hnl : ((n1 : Int) != (n2 : Int)) = true := by simp; omega
    have HE : Hid (R = false) := by show _ = _; rw [HR.out]; exact decide_eq_false fun e => hl (by rw [H1.out, H2.out, e])
    go_wp2_with fail
    go_ret
    exact ⟨by rw [HE.out]; rfl, Below.refl _ _⟩
end Go.Proofs.Ytafbjadlklcicaa
