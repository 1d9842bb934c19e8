/- Whether two lists of matches are the same. -/
import Derived.Test.YtafbjadlklcicaaMaSp
namespace Go.Proofs.Ytafbjadlklcicaa
open Go.RowKit
set_option maxRecDepth 100000

set_option maxHeartbeats 4000000 in
theorem same_any (A1 A2 : Option Addr) (n1 c1 n2 c2 : Nat) (xs ys : List Mt) (H1 : Hid (n1 = xs.length)) (H2 : Hid (n2 = ys.length)) (hn : n1 ≤ 1000000) (HSM : Hid (smM xs)) (w : World) (h1 : MS w w.heap.size A1 xs) (h2 : MS w w.heap.size A2 ys) :
    Calls Try.prog 13 #[.slice A1 n1 c1, .slice A2 n2 c2] w fun e w' => e = .returned (.bool (decide (xs = ys))) ∧ Below w.heap.size w w' := by
  obtain ⟨R, hR⟩ : ∃ R, R = decide (xs = ys) := ⟨_, rfl⟩
  rw [← hR]
  have HR := Lib.hid hR
  have HC1 := Lib.hid h1
  have HC2 := Lib.hid h2
  have hmx : Try.prog.follows .mixedOrders = true := by kernel_rfl
  clear hR h1 h2
  go_enter Try.func13, Try.ntmps13
  by_cases hl : n1 = n2
  · subst hl
    have HLN : Hid (xs.length = ys.length) := by show _ = _; rw [← H1.out, ← H2.out]
    go_wp2_with fail
    go_loopw [13] (fun i wr => ∃ j : Nat, j ≤ n1 ∧ i = .int .i64 j ∧ Hid (xs.take j = ys.take j) ∧ Below w.heap.size w wr) (fun i _ => n1 - (intOf i).toNat)
    case atStart => exact ⟨0, Nat.zero_le _, rfl, rfl, Below.refl _ _⟩
    case round =>
      obtain ⟨j, hj, rfl, HJ, hb⟩ := hrel
      have HB := Lib.hid hb
      by_cases hlt : j < n1
      · have hjx : j < xs.length := by rw [← H1.out]; exact hlt
        have hjy : j < ys.length := by rw [← HLN.out]; exact hjx
        have HLT := Lib.hid hlt
        obtain ⟨q1, o1, v0, v1, rfl, _, x0, x1, s0, s1⟩ := (HC1.out.up hb).at_ j hjx
        obtain ⟨q2, o2, t0, t1, rfl, _, y0, y1, r0, r1⟩ := (HC2.out.up hb).at_ j hjy
        have HT : Hid (xs[j].1 = ys[j].1 → xs[j].2 = ys[j].2 → xs.take (j + 1) = ys.take (j + 1)) := fun e e' => by rw [List.take_add_one, List.take_add_one, HJ.out, List.getElem?_eq_getElem hjx, List.getElem?_eq_getElem hjy, show xs[j] = ys[j] from Prod.ext e e']
        have HF : Hid (xs[j] ≠ ys[j] → xs ≠ ys) := fun e k => by subst k; exact e rfl
        have HSK := HSM.out _ (List.getElem_mem hjx)
        obtain ⟨x, hx⟩ : ∃ x, x = xs[j] := ⟨_, rfl⟩
        obtain ⟨y, hy⟩ : ∃ y, y = ys[j] := ⟨_, rfl⟩
        rw [← hx] at s0 s1 HSK
        rw [← hy] at r0 r1
        rw [← hx, ← hy] at HT HF
        have HS0 := Lib.hid s0
        have HS1 := Lib.hid s1
        have HR0 := Lib.hid r0
        have HR1 := Lib.hid r1
        obtain ⟨S0, d0, rfl, _⟩ := s0
        obtain ⟨S1, d1, rfl, _⟩ := s1
        obtain ⟨T0, g0, rfl, _⟩ := r0
        obtain ⟨T1, g1, rfl, _⟩ := r1
        obtain ⟨l0, hl0⟩ : ∃ l, l = x.1.length := ⟨_, rfl⟩
        obtain ⟨l1, hl1⟩ : ∃ l, l = x.2.length := ⟨_, rfl⟩
        obtain ⟨k0, hk0⟩ : ∃ l, l = y.1.length := ⟨_, rfl⟩
        obtain ⟨k1, hk1⟩ : ∃ l, l = y.2.length := ⟨_, rfl⟩
        rw [← hl0] at x0 HS0
        rw [← hl1] at x1 HS1
        rw [← hk0] at y0 HR0
        rw [← hk1] at y1 HR1
        have KA : Hid (∀ r : WB wr.heap.size wr, Calls Try.prog 35 #[.slice S0 l0 d0, .slice T0 k0 g0] r.w fun e w' => e = .returned (.bool (decide (x.1 = y.1))) ∧ Below r.w.heap.size r.w w') := fun r =>
          spans_any S0 T0 l0 d0 k0 g0 x.1 y.1 hl0 hk0 (by omega) r.w (HS0.out.up r.ok).cs.2 (HR0.out.up r.ok).cs.2
        have KB : Hid (∀ r : WB wr.heap.size wr, Calls Try.prog 35 #[.slice S1 l1 d1, .slice T1 k1 g1] r.w fun e w' => e = .returned (.bool (decide (x.2 = y.2))) ∧ Below r.w.heap.size r.w w') := fun r =>
          spans_any S1 T1 l1 d1 k1 g1 x.2 y.2 hl1 hk1 (by omega) r.w (HS1.out.up r.ok).cs.2 (HR1.out.up r.ok).cs.2
        have z0 : ∀ r : WB wr.heap.size wr, r.w.cell? ⟨q1, o1 + j * 2, none⟩ = some (.slice S0 l0 d0) := fun r => (r.ok.cell (World.block_lt_of_cell? wr _ x0)).trans x0
        have z1 : ∀ r : WB wr.heap.size wr, r.w.cell? ⟨q1, o1 + j * 2 + 1, none⟩ = some (.slice S1 l1 d1) := fun r => (r.ok.cell (World.block_lt_of_cell? wr _ x1)).trans x1
        have u0 : ∀ r : WB wr.heap.size wr, r.w.cell? ⟨q2, o2 + j * 2, none⟩ = some (.slice T0 k0 g0) := fun r => (r.ok.cell (World.block_lt_of_cell? wr _ y0)).trans y0
        have u1 : ∀ r : WB wr.heap.size wr, r.w.cell? ⟨q2, o2 + j * 2 + 1, none⟩ = some (.slice T1 k1 g1) := fun r => (r.ok.cell (World.block_lt_of_cell? wr _ y1)).trans y1
        have wj : IntKind.i64.wrap ((j : Int) + 1) = (j : Int) + 1 := by rw [IntKind.wrap_i64]; omega
        clear x0 x1 y0 y1 hx hy hb hl0 hl1 hk0 hk1 HSK
        by_cases ha : x.1 = y.1
        · rw [decide_eq_true ha] at KA
          by_cases hbb : x.2 = y.2
          · rw [decide_eq_true hbb] at KB
            have HTN := Lib.hid (HT.out ha hbb)
            clear ha hbb
            go_wp2_with fail
            refine wp_region_quietB wr.heap.size wr hmx (by kernel_rfl) (Below.refl _ _) ?_
            repeat (go_big_quiet_step ((first
              | (go_at_call 35; with_reducible exact calls_quietB (KA.out _) (Nat.le_refl _))
              | (go_at_call 35; with_reducible exact calls_quietB (KB.out _) (Nat.le_refl _)))))
            refine wpQuiet_nil ?_
            intro _ hw'
            obtain ⟨pq, rfl⟩ := hw'
            go_wp2_with fail
            exact ⟨⟨j + 1, HLT.out, by go_num, HTN, HB.out.trans (pq.ok.mono HB.out.size)⟩, by have := HLT.out; simp [intOf]; omega⟩
          · rw [decide_eq_false hbb] at KB
            have HRF : Hid (R = false) := by show _ = _; rw [HR.out]; exact decide_eq_false (HF.out fun e => hbb (congrArg Prod.snd e))
            clear ha hbb
            go_wp2_with fail
            refine wp_region_quietB wr.heap.size wr hmx (by kernel_rfl) (Below.refl _ _) ?_
            repeat (go_big_quiet_step ((first
              | (go_at_call 35; with_reducible exact calls_quietB (KA.out _) (Nat.le_refl _))
              | (go_at_call 35; with_reducible exact calls_quietB (KB.out _) (Nat.le_refl _)))))
            refine wpQuiet_nil ?_
            intro _ hw'
            obtain ⟨pq, rfl⟩ := hw'
            go_wp2_with fail
            go_ret
            exact ⟨by rw [HRF.out]; rfl, HB.out.trans (pq.ok.mono HB.out.size)⟩
        · rw [decide_eq_false ha] at KA
          have HRF : Hid (R = false) := by show _ = _; rw [HR.out]; exact decide_eq_false (HF.out fun e => ha (congrArg Prod.fst e))
          clear ha
          go_wp2_with fail
          refine wp_region_quietB wr.heap.size wr hmx (by kernel_rfl) (Below.refl _ _) ?_
          repeat (go_big_quiet_step ((first
            | (go_at_call 35; with_reducible exact calls_quietB (KA.out _) (Nat.le_refl _)))))
          refine wpQuiet_nil ?_
          intro _ hw'
          obtain ⟨pq, rfl⟩ := hw'
          go_wp2_with fail
          go_ret
          exact ⟨by rw [HRF.out]; rfl, HB.out.trans (pq.ok.mono HB.out.size)⟩
      · have HE : Hid (R = true) := by
          have e := HJ.out
          rw [List.take_of_length_le (by rw [← H1.out]; omega), List.take_of_length_le (by rw [← HLN.out, ← H1.out]; omega)] at e
          show _ = _
          rw [HR.out]
          exact decide_eq_true e
        have hji : ¬ (j : Int) < (n1 : Int) := by omega
        go_wp2_with fail
        go_ret
        exact ⟨by rw [HE.out]; rfl, HB.out⟩
  · have hnl : ((n1 : Int) != (n2 : Int)) = true := by simp; omega
    have HE : Hid (R = false) := by show _ = _; rw [HR.out]; exact decide_eq_false fun e => hl (by rw [H1.out, H2.out, e])
    go_wp2_with fail
    go_ret
    exact ⟨by rw [HE.out]; rfl, Below.refl _ _⟩
end Go.Proofs.Ytafbjadlklcicaa
