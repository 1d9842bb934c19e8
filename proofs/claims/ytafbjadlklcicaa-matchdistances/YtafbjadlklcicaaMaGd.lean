/- Whether matches are few and right. -/
import Derived.Test.YtafbjadlklcicaaMaSa
namespace Go.Proofs.Ytafbjadlklcicaa
open Go.RowKit
set_option maxRecDepth 100000

def okS (s : Sp) : Bool := decide (0 ≤ s.1) && decide (s.1 ≤ s.2.1) && decide (s.2.1 ≤ 1000)
def okM (m : Mt) : Bool := decide (m.1.length ≤ 5) && decide (m.2.length ≤ 5) && (m.1 ++ m.2).all okS
def goodB (ms : List Mt) (most : Int) : Bool := ms.all okM && decide ((ms.length : Int) ≤ most)
theorem all_snoc {α : Type} (p : α → Bool) (l : List α) (k : Nat) (hk : k < l.length) (h : (l.take k).all p = true) : (p l[k] = true → (l.take (k + 1)).all p = true) ∧ (p l[k] = false → l.all p = false) := by
  refine ⟨fun g => ?_, fun g => ?_⟩
  · rw [List.take_succ_eq_append_getElem hk, List.all_append, h, List.all_cons, g]; rfl
  · refine Bool.eq_false_iff.2 fun ha => ?_
    have := List.all_eq_true.1 ha _ (List.getElem_mem hk)
    rw [g] at this
    cases this
set_option maxHeartbeats 8000000 in
theorem good_any (A : Option Addr) (n c : Nat) (ms : List Mt) (most : Int) (HN : Hid (n = ms.length)) (hn : n ≤ 9223372036854775807) (w : World) (h : MS w w.heap.size A ms) :
    Calls Try.prog 8 #[.slice A n c, .int .i64 most] w fun e w' => e = .returned (.bool (goodB ms most)) ∧ Below w.heap.size w w' := by
  obtain ⟨R, hR⟩ : ∃ R, R = goodB ms most := ⟨_, rfl⟩
  rw [← hR]
  have HR := Lib.hid hR
  have HA := Lib.hid h
  clear hR h
  go_enter Try.func8, Try.ntmps8
  go_wp2_with fail
  go_loopw [11] (fun i wr => ∃ k : Nat, k ≤ n ∧ i = .int .i64 k ∧ Hid ((ms.take k).all okM = true) ∧ Below w.heap.size w wr) (fun i _ => n - (intOf i).toNat)
  case atStart => exact ⟨0, Nat.zero_le _, rfl, rfl, Below.refl _ _⟩
  case round =>
    obtain ⟨k, hk, rfl, HT, hb⟩ := hrel
    have HB := Lib.hid hb
    by_cases hlt : k < n
    · have hkl : k < ms.length := by rw [← HN.out]; exact hlt
      have HLT := Lib.hid hlt
      have HST := Lib.hid (all_snoc okM ms k hkl HT.out)
      obtain ⟨b, o, z0, z1, rfl, _, e0, e1, y0, y1⟩ := (HA.out.up hb).at_ k hkl
      obtain ⟨m, hm⟩ : ∃ m, m = ms[k] := ⟨_, rfl⟩
      rw [← hm] at y0 y1 HST
      have HY := Lib.hid (And.intro y0 y1)
      obtain ⟨S0, d0, rfl, hm0, hm1, _⟩ := y0
      obtain ⟨S1, d1, rfl, hm2, hm3, _⟩ := y1
      have HRF : Hid (okM m = false → R = false) := fun g => by rw [HR.out]; unfold goodB; rw [HST.out.2 g]; rfl
      obtain ⟨l0, hl0⟩ : ∃ l, l = m.1.length := ⟨_, rfl⟩
      obtain ⟨l1, hl1⟩ : ∃ l, l = m.2.length := ⟨_, rfl⟩
      rw [← hl0] at e0 HY hm0
      rw [← hl1] at e1 HY hm2
      have HL0 := Lib.hid hl0
      have HL1 := Lib.hid hl1
      obtain ⟨X, hX⟩ : ∃ X, wr.alloc (.cells #[.slice S0 l0 d0, .slice S1 l1 d1] 60) = X := ⟨_, rfl⟩
      have bX : Below wr.heap.size wr X := by rw [← hX]; exact (Below.refl _ _).alloc (Nat.le_refl _) _
      obtain ⟨c0, c1⟩ := box2 wr (.slice S0 l0 d0) (.slice S1 l1 d1) 60
      rw [hX] at c0 c1
      have HX := Lib.hid hX
      have HBX := Lib.hid (hb.trans (bX.mono hb.size))
      have hmx0 : l0 ≤ 9223372036854775807 := by unfold maxLen at hm1; omega
      have hmx1 : l1 ≤ 9223372036854775807 := by unfold maxLen at hm3; omega
      have HYX : Hid (SV X X.heap.size (.slice S0 l0 d0) m.1 ∧ SV X X.heap.size (.slice S1 l1 d1) m.2) := ⟨HY.out.1.up bX, HY.out.2.up bX⟩
      have HKC : Hid (∀ W, Below X.heap.size X W → W.cell? ⟨wr.heap.size, 0, none⟩ = some (.slice S0 l0 d0) ∧ W.cell? ⟨wr.heap.size, 1, none⟩ = some (.slice S1 l1 d1)) := fun W hW => ⟨(hW.cell (World.block_lt_of_cell? X _ c0)).trans c0, (hW.cell (World.block_lt_of_cell? X _ c1)).trans c1⟩
      have wk : IntKind.i64.wrap ((k : Int) + 1) = (k : Int) + 1 := by rw [IntKind.wrap_i64]; omega
      clear hm hb bX hX hl0 hl1 HY
      by_cases h5 : 5 < l0
      · have hI : (5 : Int) < (l0 : Int) := by omega
        have hbI : decide ((5 : Int) < (l0 : Int)) = true := decide_eq_true hI
        have HF := Lib.hid (HRF.out (by unfold okM; rw [decide_eq_false (show ¬ m.1.length ≤ 5 by rw [← HL0.out]; omega)]; rfl))
        go_wp2_with fail
        rw [HX.out]
        go_ret
        exact ⟨by rw [HF.out]; rfl, HBX.out⟩
      · have hI : ¬ (5 : Int) < (l0 : Int) := by omega
        have hbI : decide ((5 : Int) < (l0 : Int)) = false := decide_eq_false hI
        by_cases h6 : 5 < l1
        · have hJ : (5 : Int) < (l1 : Int) := by omega
          have hbJ : decide ((5 : Int) < (l1 : Int)) = true := decide_eq_true hJ
          have HF := Lib.hid (HRF.out (by unfold okM; rw [decide_eq_false (show ¬ m.2.length ≤ 5 by rw [← HL1.out]; omega)]; simp))
          go_wp2_with fail
          rw [HX.out]
          go_ret
          exact ⟨by rw [HF.out]; rfl, HBX.out⟩
        · have hJ : ¬ (5 : Int) < (l1 : Int) := by omega
          have hbJ : decide ((5 : Int) < (l1 : Int)) = false := decide_eq_false hJ
          obtain ⟨N, hN⟩ : ∃ N, l0 + l1 = N := ⟨_, rfl⟩
          have hNl : N ≤ 10 := by omega
          have HNN := Lib.hid hN
          have BR := Lib.hid (Below.refl X.heap.size X)
          have HBA : Hid (Below X.heap.size X ((X.alloc (.cells #[] 26)).drew)) := ((Below.refl _ _).alloc (Nat.le_refl _) _).drew
          have HO : Hid (((X.alloc (.cells #[] 26)).drew).ownsRow X.heap.size 26 4 (.slice (some ⟨X.heap.size, 0, none⟩) 0 0) 0 []) := own_lit X _ 4 (0, 0) rfl
          have HCA := Lib.hid (HYX.out.1.up HBA.out).cs.2
          have hsA : X.heap.size ≤ ((X.alloc (.cells #[] 26)).drew).heap.size := HBA.out.size
          have HC1 := Lib.hid HYX.out.2
          have HXS : Hid (wr.heap.size < X.heap.size) := World.block_lt_of_cell? X _ c0
          clear hN
          go_wp2_with fail
          rw [HX.out]
          go_region_held3 (fun W => W.cell? ⟨wr.heap.size, 0, none⟩ = some (.slice S0 l0 d0) ∧ W.cell? ⟨wr.heap.size, 1, none⟩ = some (.slice S1 l1 d1))
            (first | exact HKC.out _ BR.out.drew | exact HKC.out _ HBA.out | exact HKC.out _ b4 | exact HKC.out _ b5)
            (first
              | (refine step_appR elSp _ (by rfl) _ _ (by rfl) X.heap.size (.slice (some ⟨X.heap.size, 0, none⟩) 0 0) 0 [] (by rfl) HO.out S0 l0 d0 _ (spCs m.1) (by rfl) (by rw [spCs_len, HL0.out]) (spCs_one _) HCA.out l0 (by omega) (by omega) hsA ?_; intro v4 w4 hown4 hg4 _; have b4 := own_grow HO.out (Nat.le_refl _) HBA.out hsA hg4)
              | (refine step_appR elSp w4 (by rfl) _ _ (by rfl) X.heap.size v4 l0 ([] ++ spCs m.1) (by rfl) hown4 S1 l1 d1 _ (spCs m.2) (by rfl) (by rw [spCs_len, HL1.out]) (spCs_one _) (HC1.out.up b4).cs.2 N HNN.out (by omega) b4.size ?_; intro v5 w5 hown5 hg5 _; have b5 := own_grow hown4 (Nat.le_refl _) b4 b4.size hg5; obtain ⟨A5, c5, rfl, _⟩ := own_form hown5))
          obtain ⟨L, hL⟩ : ∃ L, L = m.1 ++ m.2 := ⟨_, rfl⟩
          rw [List.nil_append, ← spCs_app, ← hL] at hown5
          obtain ⟨_, _, e5, _, _, k5, _⟩ := own_form hown5
          injection e5 with e5 _ e6
          subst e5 e6
          have HC5 := Lib.hid k5
          have HLN : Hid (N = L.length) := by show _ = _; rw [hL, List.length_append, ← HL0.out, ← HL1.out, HNN.out]
          have HOK : Hid (okM m = L.all okS) := by
            show _ = _
            unfold okM
            rw [decide_eq_true (show m.1.length ≤ 5 by rw [← HL0.out]; omega), decide_eq_true (show m.2.length ≤ 5 by rw [← HL1.out]; omega), hL]
            rfl
          have HB5 := Lib.hid (HBX.out.trans (b5.mono HBX.out.size))
          clear hown4 hg4 b4 hg5 b5 hown5 k5 hL
          go_wp2_with fail
          go_loopw [33] (fun i wr => ∃ j : Nat, j ≤ N ∧ i = .int .i64 j ∧ Hid ((L.take j).all okS = true) ∧ Hid (Below w5.heap.size w5 wr)) (fun i _ => N - (intOf i).toNat)
          case atStart => exact ⟨0, Nat.zero_le _, rfl, rfl, Below.refl _ _⟩
          case round =>
            obtain ⟨j, hj, rfl, HJ, HJB⟩ := hrel
            by_cases hlj : j < N
            · have hjl : j < L.length := by rw [← HLN.out]; exact hlj
              have HLJ := Lib.hid hlj
              have HSJ := Lib.hid (all_snoc okS L j hjl HJ.out)
              obtain ⟨g, p, rfl, _, hc⟩ := (HC5.out.below HJB.out) (by rw [spCs_len]; omega)
              obtain ⟨a0, a1, a2, a3⟩ := spCs_at L j hjl
              have x0 := hc _ _ a0
              have x1 := hc _ _ a1
              have x2 := hc _ _ a2
              have x3 := hc _ _ a3
              rw [← Nat.add_assoc] at x1 x2 x3
              obtain ⟨x, hx⟩ : ∃ x, x = L[j] := ⟨_, rfl⟩
              rw [← hx] at x0 x1 x2 x3 HSJ
              obtain ⟨f, t, q, r⟩ := x
              simp only at x0 x1 x2 x3
              have hbb := HB5.out.trans (HJB.out.mono HB5.out.size)
              have HBJ := Lib.hid (hbb.alloc hbb.size (.cells #[.int .i64 f, .int .i64 t, .int .i64 q, .int .i64 r] 26))
              have HBJ2 := Lib.hid (HJB.out.alloc HJB.out.size (.cells #[.int .i64 f, .int .i64 t, .int .i64 q, .int .i64 r] 26))
              have HFF : Hid (okS (f, t, q, r) = false → R = false) := fun g => HRF.out (by rw [HOK.out]; exact HSJ.out.2 g)
              have wj : IntKind.i64.wrap ((j : Int) + 1) = (j : Int) + 1 := by rw [IntKind.wrap_i64]; omega
              clear hc a0 a1 a2 a3 hx hbb
              by_cases g1 : f < 0
              · have b1 : decide (f < 0) = true := decide_eq_true g1
                have HF := Lib.hid (HFF.out (by unfold okS; rw [decide_eq_false (show ¬ (0 : Int) ≤ f by omega)]; rfl))
                go_wp2_with fail
                go_ret
                exact ⟨by rw [HF.out]; rfl, HBJ.out⟩
              · have b1 : decide (f < 0) = false := decide_eq_false g1
                by_cases g2 : t < f
                · have b2 : decide (t < f) = true := decide_eq_true g2
                  have HF := Lib.hid (HFF.out (by unfold okS; rw [decide_eq_false (show ¬ f ≤ t by omega)]; simp))
                  go_wp2_with fail
                  go_ret
                  exact ⟨by rw [HF.out]; rfl, HBJ.out⟩
                · have b2 : decide (t < f) = false := decide_eq_false g2
                  by_cases g3 : 1000 < t
                  · have b3 : decide (1000 < t) = true := decide_eq_true g3
                    have HF := Lib.hid (HFF.out (by unfold okS; rw [decide_eq_false (show ¬ t ≤ 1000 by omega)]; simp))
                    go_wp2_with fail
                    go_ret
                    exact ⟨by rw [HF.out]; rfl, HBJ.out⟩
                  · have b3 : decide (1000 < t) = false := decide_eq_false g3
                    have HTN := Lib.hid (HSJ.out.1 (by unfold okS; rw [decide_eq_true (show (0 : Int) ≤ f by omega), decide_eq_true (show f ≤ t by omega), decide_eq_true (show t ≤ 1000 by omega)]; rfl))
                    go_wp2_with fail
                    exact ⟨⟨j + 1, HLJ.out, by go_num, HTN, HBJ2.out⟩, by have := HLJ.out; simp [intOf]; omega⟩
            · have HF : Hid (okM m = true) := by
                show _ = _
                rw [HOK.out]
                have h := HJ.out
                rwa [List.take_of_length_le (by rw [← HLN.out]; omega)] at h
              have HTN := Lib.hid (HST.out.1 HF.out)
              have HBB := Lib.hid (HB5.out.trans (HJB.out.mono HB5.out.size))
              have hji : ¬ (j : Int) < (N : Int) := by omega
              go_wp2_with fail
              exact ⟨⟨k + 1, HLT.out, by go_num, HTN, HBB.out⟩, by have := HLT.out; simp [intOf]; omega⟩
    · obtain rfl : k = n := by omega
      have HF : Hid (R = decide ((k : Int) ≤ most)) := by
        have h := HT.out
        rw [List.take_of_length_le (by rw [HN.out]; exact Nat.le_refl _)] at h
        show _ = _
        rw [HR.out, HN.out]
        unfold goodB
        rw [h]
        rfl
      go_wp2_with fail
      go_ret
      exact ⟨by rw [HF.out]; rfl, HB.out⟩
end Go.Proofs.Ytafbjadlklcicaa
