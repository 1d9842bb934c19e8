/- Whether two hits are the same. -/
import Derived.Test.YtjigaoclngfcaaaPoHd
import Derived.Test.YtjigaoclngfcaaaPoWi
import Derived.Test.YtjigaoclngfcaaaQuB
import Derived.Deep.RegionHeld3
namespace Go.Proofs.Ytjigaoclngfcaaa
open Go.RowKit
set_option maxRecDepth 100000

theorem eI_get {xs : List Int} {k : Nat} (h : k < xs.length) : (xs.map eI)[k]? = some (.int .i64 xs[k]) := by rw [List.getElem?_map, List.getElem?_eq_getElem h]; rfl
set_option maxHeartbeats 4000000 in
theorem same_any (d1 d2 : Int) (A1 A2 : Option Addr) (n1 c1 n2 c2 : Nat) (xs ys : List Int) (H1 : Hid (n1 = xs.length)) (H2 : Hid (n2 = ys.length)) (hn : n1 ≤ 1000000) (w : World) (h1 : CS w w.heap.size A1 (xs.map eI)) (h2 : CS w w.heap.size A2 (ys.map eI)) :
    Calls Try.prog 23 #[.agg #[.int .i64 d1, .slice A1 n1 c1], .agg #[.int .i64 d2, .slice A2 n2 c2]] w fun e w' => e = .returned (.bool (decide (d1 = d2 ∧ xs = ys))) ∧ Below w.heap.size w w' := by
  obtain ⟨Y, hY⟩ : ∃ Y, w.alloc (.cells #[.int .i64 d1, .slice A1 n1 c1] 37) = Y := ⟨_, rfl⟩
  obtain ⟨X, hX⟩ : ∃ X, Y.alloc (.cells #[.int .i64 d2, .slice A2 n2 c2] 37) = X := ⟨_, rfl⟩
  have bY : Below w.heap.size w Y := by rw [← hY]; exact (Below.refl _ _).alloc (Nat.le_refl _) _
  have bX : Below Y.heap.size Y X := by rw [← hX]; exact (Below.refl _ _).alloc (Nat.le_refl _) _
  have sY : Y.heap.size = w.heap.size + 1 := by rw [← hY]; simp
  have a0 : Y.cell? ⟨w.heap.size, 0, none⟩ = some (.int .i64 d1) := by rw [← hY]; simp
  have a1 : Y.cell? ⟨w.heap.size, 1, none⟩ = some (.slice A1 n1 c1) := by rw [← hY]; simp
  have b0 : X.cell? ⟨w.heap.size + 1, 0, none⟩ = some (.int .i64 d2) := by rw [← hX, ← sY]; simp
  have b1 : X.cell? ⟨w.heap.size + 1, 1, none⟩ = some (.slice A2 n2 c2) := by rw [← hX, ← sY]; simp
  have HK : Hid (∀ W, Below X.heap.size X W → W.cell? ⟨w.heap.size, 0, none⟩ = some (.int .i64 d1) ∧ W.cell? ⟨w.heap.size, 1, none⟩ = some (.slice A1 n1 c1) ∧ W.cell? ⟨w.heap.size + 1, 0, none⟩ = some (.int .i64 d2) ∧ W.cell? ⟨w.heap.size + 1, 1, none⟩ = some (.slice A2 n2 c2)) := by
    have a0' := (bX.cell (p := ⟨w.heap.size, 0, none⟩) (by show w.heap.size < _; omega)).trans a0
    have a1' := (bX.cell (p := ⟨w.heap.size, 1, none⟩) (by show w.heap.size < _; omega)).trans a1
    exact fun W hb => ⟨(hb.cell (World.block_lt_of_cell? X _ a0')).trans a0', (hb.cell (World.block_lt_of_cell? X _ a1')).trans a1', (hb.cell (World.block_lt_of_cell? X _ b0)).trans b0, (hb.cell (World.block_lt_of_cell? X _ b1)).trans b1⟩
  have bwX : Below w.heap.size w X := bY.trans (bX.mono bY.size)
  have HBX := Lib.hid bwX
  have HC1 : Hid (∀ W, Below X.heap.size X W → CS W W.heap.size A1 (xs.map eI)) := fun W hb => h1.up' (bwX.trans (hb.mono bwX.size))
  have HC2 : Hid (∀ W, Below X.heap.size X W → CS W W.heap.size A2 (ys.map eI)) := fun W hb => h2.up' (bwX.trans (hb.mono bwX.size))
  have HXY : Hid ((w.alloc (.cells #[.int .i64 d1, .slice A1 n1 c1] 37)).alloc (.cells #[.int .i64 d2, .slice A2 n2 c2] 37) = X) := by show _ = _; rw [hY, hX]
  have hmx : Try.prog.follows .mixedOrders = true := by kernel_rfl
  clear hY hX bY bX sY a0 a1 b0 b1 bwX h1 h2
  obtain ⟨R, hR⟩ : ∃ R, R = decide (d1 = d2 ∧ xs = ys) := ⟨_, rfl⟩
  rw [← hR]
  have HR := Lib.hid hR
  clear hR
  go_enter Try.func23, Try.ntmps23
  by_cases hd : d1 = d2
  · subst hd
    by_cases hl : n1 = n2
    · subst hl
      have hln : xs.length = ys.length := by rw [← H1.out, ← H2.out]
      have HLN := Lib.hid hln
      clear hln
      go_wp2_with fail
      rw [HXY.out]
      go_loopw [23] (fun i wr => ∃ j : Nat, j ≤ n1 ∧ i = .int .i64 j ∧ Hid (xs.take j = ys.take j) ∧ Below X.heap.size X wr) (fun i _ => n1 - (intOf i).toNat)
      case atStart => exact ⟨0, Nat.zero_le _, rfl, rfl, Below.refl _ _⟩
      case round =>
        obtain ⟨j, hj, rfl, HJ, hb⟩ := hrel
        by_cases hlt : j < n1
        · have hjx : j < xs.length := by rw [← H1.out]; exact hlt
          have hjy : j < ys.length := by rw [← HLN.out]; exact hjx
          have HB := Lib.hid hb
          obtain ⟨q1, o1, e1, _, r1⟩ := HC1.out wr hb (by rw [List.length_map]; omega)
          obtain ⟨q2, o2, e2, _, r2⟩ := HC2.out wr hb (by rw [List.length_map]; omega)
          subst e1 e2
          have x1 := HC1.out
          have x2 := HC2.out
          have y1 : ∀ p : WB wr.heap.size wr, p.w.cell? ⟨q1, o1 + j, none⟩ = some (.int .i64 xs[j]) := fun p => by
            obtain ⟨b', o', e', _, r'⟩ := x1 p.w (HB.out.trans (p.ok.mono HB.out.size)) (by rw [List.length_map]; omega)
            injection e' with e'
            injection e' with e1 e2 e3
            subst e1 e2
            exact r' j _ (eI_get hjx)
          have y2 : ∀ p : WB wr.heap.size wr, p.w.cell? ⟨q2, o2 + j, none⟩ = some (.int .i64 ys[j]) := fun p => by
            obtain ⟨b', o', e', _, r'⟩ := x2 p.w (HB.out.trans (p.ok.mono HB.out.size)) (by rw [List.length_map]; omega)
            injection e' with e'
            injection e' with e1 e2 e3
            subst e1 e2
            exact r' j _ (eI_get hjy)
          have z := fun p : WB wr.heap.size wr => HK.out p.w (HB.out.trans (p.ok.mono HB.out.size))
          have z1 : ∀ p : WB wr.heap.size wr, p.w.cell? ⟨w.heap.size, 1, none⟩ = some (.slice (some ⟨q1, o1, none⟩) n1 c1) := fun p => (z p).2.1
          have z2 : ∀ p : WB wr.heap.size wr, p.w.cell? ⟨w.heap.size + 1, 1, none⟩ = some (.slice (some ⟨q2, o2, none⟩) n1 c2) := fun p => (z p).2.2.2
          have HT : Hid (xs[j] = ys[j] → xs.take (j + 1) = ys.take (j + 1)) := fun e => by rw [List.take_add_one, List.take_add_one, HJ.out, List.getElem?_eq_getElem hjx, List.getElem?_eq_getElem hjy, e]
          have HF : Hid (xs[j] ≠ ys[j] → xs ≠ ys) := fun e k => by subst k; exact e rfl
          obtain ⟨x, hx⟩ : ∃ x, x = xs[j] := ⟨_, rfl⟩
          obtain ⟨y, hy⟩ : ∃ y, y = ys[j] := ⟨_, rfl⟩
          rw [← hx, ← hy] at HT HF
          rw [← hx] at y1
          rw [← hy] at y2
          clear r1 r2 x1 x2 z hx hy hb
          by_cases hxy : x = y
          · subst hxy
            go_wp2_with fail
            refine wp_region_quietB wr.heap.size wr hmx (by kernel_rfl) (Below.refl _ _) ?_
            repeat (go_big_quiet_step (fail))
            refine wpQuiet_nil ?_
            intro _ hw'
            obtain ⟨pq, rfl⟩ := hw'
            go_wp2_with fail
            exact ⟨⟨j + 1, by omega, by go_num, HT.out trivial, HB.out.trans (pq.ok.mono HB.out.size)⟩, by simp [intOf]; omega⟩
          · have hne : (x != y) = true := by simp [hxy]
            go_wp2_with fail
            refine wp_region_quietB wr.heap.size wr hmx (by kernel_rfl) (Below.refl _ _) ?_
            repeat (go_big_quiet_step (fail))
            refine wpQuiet_nil ?_
            intro _ hw'
            obtain ⟨pq, rfl⟩ := hw'
            go_wp2_with fail
            go_ret
            exact ⟨by rw [HR.out, decide_eq_false fun k => HF.out hxy k.2]; rfl, HBX.out.trans ((HB.out.trans (pq.ok.mono HB.out.size)).mono HBX.out.size)⟩
        · obtain rfl : j = n1 := by omega
          have HB := Lib.hid hb
          go_wp2_with fail
          go_ret
          refine ⟨?_, HBX.out.trans (HB.out.mono HBX.out.size)⟩
          have e := HJ.out
          rw [List.take_of_length_le (by rw [H1.out]; exact Nat.le_refl _), List.take_of_length_le (by rw [H1.out, HLN.out]; exact Nat.le_refl _)] at e
          rw [HR.out, decide_eq_true ⟨trivial, e⟩]
          rfl
    · have hnl : ((n1 : Int) != (n2 : Int)) = true := by simp; omega
      go_wp2_with fail
      rw [HXY.out]
      go_ret
      exact ⟨by rw [HR.out, decide_eq_false fun k => hl (by rw [H1.out, H2.out, k.2])]; rfl, HBX.out⟩
  · have hnd : (d1 != d2) = true := by simp [hd]
    go_wp2_with fail
    rw [HXY.out]
    go_ret
    exact ⟨by rw [HR.out, decide_eq_false fun k => hd k.1]; rfl, HBX.out⟩
end Go.Proofs.Ytjigaoclngfcaaa
