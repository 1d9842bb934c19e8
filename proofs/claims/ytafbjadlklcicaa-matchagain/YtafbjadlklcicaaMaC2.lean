/- covering's function value. -/
import Derived.Test.YtafbjadlklcicaaMaCx
import Derived.Deep.QuietTactic
import Derived.BigQuiet
import Derived.Shelf.Abstract
namespace Go.Proofs.Ytafbjadlklcicaa
open Go.RowKit
set_option maxRecDepth 100000

theorem cv21_any (i n b o c D E : Nat) (x y : Int) (hi : i < n) (W : World) (h1 : W.cell? ⟨D, 0, none⟩ = some (.slice (some ⟨b, o, none⟩) n c)) (h2 : W.cell? ⟨E, 0, none⟩ = some (.int .i64 y)) (h3 : W.cell? ⟨b, o + i * 4, none⟩ = some (.int .i64 x)) :
    Calls Try.prog 85 #[.int .i64 (i : Int), .pointer (some ⟨D, 0, none⟩), .pointer (some ⟨E, 0, none⟩)] W fun e w' => e = .returned (.bool (decide (y < x))) ∧ Below W.heap.size W w' := by
  have hiI : (i : Int) < (n : Int) := by omega
  obtain ⟨q, hq⟩ : ∃ q, q = decide (y < x) := ⟨_, rfl⟩
  have hq2 : decide (y < x) = q := hq.symm
  rw [hq2]
  clear hq
  go_enter Try.func85, Try.ntmps85
  go_wp2_with fail
  go_quiet (fail)
  go_wp2_with fail
  go_ret
  exact ⟨rfl, below_drewN (Below.refl _ _) _⟩
/-- What covering leaves: spans that rise by where they begin, with the ends that end last so far. -/
structure Cov (w : World) (D : Nat) (ts us : List Sp) (A : Option Addr) (n c : Nat) : Prop where
  cell : w.cell? ⟨D, 0, none⟩ = some (.slice A n c)
  len : n = ts.length ∧ us.length = ts.length ∧ n ≤ 1000
  row : CS w w.heap.size A (spCs us)
  fr : ∀ k (h : k < us.length), us[k].1 = (ts.getD k (0, 0, 0, 0)).1 ∧ us[k].2.1 = topE ts k
  rise : ∀ i j, i ≤ j → j < ts.length → (ts.getD i (0, 0, 0, 0)).1 ≤ (ts.getD j (0, 0, 0, 0)).1
theorem Cov.up {w w' : World} {D : Nat} {ts us : List Sp} {A : Option Addr} {n c : Nat} (h : Cov w D ts us A n c) (hb : Below w.heap.size w w') : Cov w' D ts us A n c :=
  ⟨(hb.cell (World.block_lt_of_cell? w _ h.cell)).trans h.cell, h.len, (h.row.below hb).more hb.size, h.fr, h.rise⟩
set_option maxHeartbeats 2000000 in
theorem cv2_any (D : Nat) (ts us : List Sp) (A : Option Addr) (n c : Nat) (s : Sp) (w : World) (h : Cov w D ts us A n c) :
    Calls Try.prog 84 #[spV s, .pointer (some ⟨D, 0, none⟩)] w fun e w' => e = .returned (.bool (covB ts s)) ∧ Below w.heap.size w w' := by
  obtain ⟨f, t, p, q⟩ := s
  obtain ⟨X, hX⟩ : ∃ X, w.alloc (.cells #[.int .i64 f, .int .i64 t, .int .i64 p, .int .i64 q] 26) = X := ⟨_, rfl⟩
  have bX : Below w.heap.size w X := by rw [← hX]; exact (Below.refl _ _).alloc (Nat.le_refl _) _
  have hX' := h.up bX
  have z : ∀ j u, [Value.int .i64 f, .int .i64 t, .int .i64 p, .int .i64 q][j]? = some u → X.cell? ⟨w.heap.size, j, none⟩ = some u := fun j u hu => by
    have := new_cells w #[.int .i64 f, .int .i64 t, .int .i64 p, .int .i64 q] 26 (0, 0) j u hu
    rw [add_addr, hX, Nat.zero_add] at this
    exact this
  have z0 := z 0 _ rfl
  have z1 := z 1 _ rfl
  have hc := hX'.cell
  have HFN : Hid (FnN 85 #[.pointer (some ⟨D, 0, none⟩), .pointer (some ⟨w.heap.size, 0, none⟩)] (fun i => decide (f < (ts.getD i (0, 0, 0, 0)).1)) n X) := by
    refine ⟨enters_of Try.func85 (by kernel_rfl) rfl, fun W hW i hi => ?_⟩
    have hW' := hX'.up hW
    have hiu : i < us.length := by rw [h.len.2.1, ← h.len.1]; exact hi
    obtain ⟨b, o, rfl, _, hcx⟩ := hW'.row (by rw [spCs_len]; omega)
    have e := hcx _ _ (spCs_at us i hiu).1
    rw [(h.fr i hiu).1] at e
    exact cv21_any i n b o c D w.heap.size _ f hi W hW'.cell ((hW.cell (World.block_lt_of_cell? X _ z0)).trans z0) e
  have HMO : Hid (∀ i j, i ≤ j → j < n → decide (f < (ts.getD i (0, 0, 0, 0)).1) = true → decide (f < (ts.getD j (0, 0, 0, 0)).1) = true) := fun i j hij hj hd => by
    have := h.rise i j hij (by rw [← h.len.1]; exact hj)
    have := of_decide_eq_true hd
    exact decide_eq_true (by omega)
  have KS := Lib.hid (sortSearch_any 85 #[.pointer (some ⟨D, 0, none⟩), .pointer (some ⟨w.heap.size, 0, none⟩)] _ n (by have := h.len.2.2; omega) X HFN HMO)
  have HCV := Lib.hid hX'
  have HX := Lib.hid hX
  have HBX := Lib.hid bX
  clear h hX bX hX' z HFN HMO
  unfold spV
  simp only
  go_enter Try.func84, Try.ntmps84
  go_upto_region 1 with fail
  rw [HX.out]
  go_wp2_with fail
  with_reducible refine KS.out.mono ?_
  rintro e w5 ⟨r, rfl, hrn, hr1, hr2, b5⟩
  have HB5 := Lib.hid (HBX.out.trans (b5.mono HBX.out.size))
  have HV5 := Lib.hid (HCV.out.up b5)
  have y1 := (b5.cell (World.block_lt_of_cell? X _ z1)).trans z1
  have HCT : Hid (covB ts (f, t, p, q) = (decide (0 < r) && decide (t ≤ topE ts (r - 1)))) := cov_top ts (f, t, p, q) r (by have := HCV.out.len.1; omega) (fun k hk => by have := of_decide_eq_false (hr1 k hk); show _ ≤ f; omega) (fun k hk hl => of_decide_eq_true (hr2 k hk (by have := HCV.out.len.1; omega)))
  have hc5 := HV5.out.cell
  clear hc z0 z1 hr1 hr2 b5 KS
  by_cases h0 : r = 0
  · subst h0
    have HC0 : Hid (covB ts (f, t, p, q) = false) := by show _ = _; rw [HCT.out]; rfl
    clear HCT
    go_wp2_with fail
    go_quiet (fail)
    go_wp2_with fail
    go_ret
    exact ⟨by rw [HC0.out]; rfl, below_drewN HB5.out _⟩
  · obtain ⟨k, hk⟩ : ∃ k, r = k + 1 := ⟨r - 1, by omega⟩
    have hkn : k < n := by omega
    have hku : k < us.length := by rw [HV5.out.len.2.1, ← HV5.out.len.1]; exact hkn
    obtain ⟨b, o, rfl, _, hcx⟩ := HV5.out.row (by rw [spCs_len]; omega)
    have e1 := hcx _ _ (spCs_at us k hku).2.1
    rw [← Nat.add_assoc, (HV5.out.fr k hku).2] at e1
    have hkr : r - 1 = k := by omega
    have hp : decide ((0 : Int) < (r : Int)) = true := decide_eq_true (by omega)
    have hp2 : decide (0 < r) = true := decide_eq_true (by omega)
    have wr1 : IntKind.i64.wrap ((r : Int) - 1) = (k : Int) := by have := HV5.out.len.2.2; rw [IntKind.wrap_i64]; omega
    have hkI : (k : Int) < (n : Int) := by omega
    have HCT2 : Hid (covB ts (f, t, p, q) = decide (t ≤ topE ts k)) := by show _ = _; rw [HCT.out, hkr, decide_eq_true (by omega), Bool.true_and]
    obtain ⟨m, hm⟩ : ∃ m, m = topE ts k := ⟨_, rfl⟩
    rw [← hm] at e1 HCT2
    obtain ⟨qb, hqb⟩ : ∃ qb, qb = decide (t ≤ m) := ⟨_, rfl⟩
    have hqb2 : decide (t ≤ m) = qb := hqb.symm
    rw [hqb2] at HCT2
    clear hm hqb hcx hk hkr hku HCT
    go_wp2_with fail
    go_quiet (fail)
    go_wp2_with fail
    go_ret
    exact ⟨by rw [HCT2.out]; rfl, below_drewN HB5.out _⟩
end Go.Proofs.Ytafbjadlklcicaa
