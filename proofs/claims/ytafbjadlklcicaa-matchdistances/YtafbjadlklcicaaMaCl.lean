/- slices.Clone of spans; (Match).cloned, with, size. -/
import Derived.Test.YtafbjadlklcicaaMaCat
import Derived.Test.YtafbjadlklcicaaMem
import Derived.Test.YtafbjadlklcicaaQuB
import Derived.Lib.LazyBuf
import Derived.Deep.RegionHeld3
namespace Go.Proofs.Ytafbjadlklcicaa
open Go.RowKit
set_option maxRecDepth 100000

theorem clone_any (v : Value) (l : List Sp) (hl : l.length ≤ 40000) (w : World) (h : SV w w.heap.size v l) :
    Calls Try.prog 87 #[v] w fun e w' => ∃ v', e = .returned v' ∧ SV w' w'.heap.size v' l ∧ Below w.heap.size w w' ∧ Fr w.heap.size v' := by
  obtain ⟨A, c, rfl, h1, h2, h3⟩ := h
  have HC := Lib.hid h3
  obtain ⟨n, hn⟩ : ∃ n, n = l.length := ⟨_, rfl⟩
  rw [← hn] at h1 hl ⊢
  have HN := Lib.hid hn
  have heq := run_eql_slice_nil (P := Try.prog) w 28 26 A n c Try.underlying28
  cases A with
  | none =>
    have hl0 : l = [] := by
      rcases Nat.eq_zero_or_pos l.length with h | h
      · exact List.eq_nil_of_length_eq_zero h
      · obtain ⟨b, o, e, _⟩ := h3 (by rw [spCs_len]; omega)
        cases e
    simp only [Option.isNone_none] at heq
    clear h3 hn
    go_enter Try.func87, Try.ntmps87
    go_wp2_with fail
    go_ret
    exact ⟨_, rfl, by rw [hl0]; exact SV.nil _ _, Below.refl _ _, Fr.nil _ _ _⟩
  | some a =>
    simp only [Option.isNone_some] at heq
    obtain ⟨X, hX⟩ : ∃ X, w.alloc (.cells #[] 26) = X := ⟨_, rfl⟩
    have bX : Below w.heap.size w X := by rw [← hX]; exact (Below.refl _ _).alloc (Nat.le_refl _) _
    have HO : Hid (X.ownsRow w.heap.size 26 4 (.slice (some ⟨w.heap.size, 0, none⟩) 0 0) 0 []) := by rw [← hX]; exact own_lit w _ 4 (0, 0) rfl
    have HX := Lib.hid hX
    have HB := Lib.hid bX
    have hsz := bX.size
    have HCX := Lib.hid (h3.below bX)
    clear h3 hX bX hn
    go_enter Try.func87, Try.ntmps87
    go_wp2_with (at_builtin; (rw [HX.out]; refine wpList_appR elSp X rfl (.tmp 5) (.tmp 6) rfl w.heap.size _ 0 [] rfl HO.out (some a) n c w.heap.size (spCs l) rfl (by rw [spCs_len, HN.out]) (spCs_one l) HCX.out n (by omega) (by omega) hsz ?_; intro v4 w4 hown4 hg4 _; have H4 := Lib.hid (And.intro hown4 (own_grow HO.out (Nat.le_refl _) HB.out hsz hg4)); clear hown4 hg4))
    go_ret
    exact ⟨_, rfl, SV.own H4.out.1 HN.out, H4.out.2, Fr.own H4.out.1⟩
theorem box2 (w : World) (z0 z1 : Value) (t : TypeId) : (w.alloc (.cells #[z0, z1] t)).cell? ⟨w.heap.size, 0, none⟩ = some z0 ∧ (w.alloc (.cells #[z0, z1] t)).cell? ⟨w.heap.size, 1, none⟩ = some z1 := by
  have a := new_cells w #[z0, z1] t (0, 0) 0 z0 rfl
  have b := new_cells w #[z0, z1] t (0, 0) 1 z1 rfl
  rw [add_addr] at a b
  exact ⟨a, b⟩
theorem keep2 (W : World) (a b : Nat) (u0 u1 x0 x1 : Value) (h : W.cell? ⟨a, 0, none⟩ = some x0 ∧ W.cell? ⟨a, 1, none⟩ = some x1) : ((W.setCell ⟨a + 1 + b, 0, none⟩ u0).setCell ⟨a + 1 + b, 1, none⟩ u1).cell? ⟨a, 0, none⟩ = some x0 ∧ ((W.setCell ⟨a + 1 + b, 0, none⟩ u0).setCell ⟨a + 1 + b, 1, none⟩ u1).cell? ⟨a, 1, none⟩ = some x1 := by
  refine ⟨?_, ?_⟩
  · rw [World.cell?_setCell_other _ _ _ _ (by intro e; injection e with e _; omega), World.cell?_setCell_other _ _ _ _ (by intro e; injection e with e _; omega)]; exact h.1
  · rw [World.cell?_setCell_other _ _ _ _ (by intro e; injection e with e _; omega), World.cell?_setCell_other _ _ _ _ (by intro e; injection e with e _; omega)]; exact h.2
/-- Two cells of a block are stored into: what they hold then; what lies elsewhere. -/
theorem stored2 {w : World} {b : Nat} {u0 u1 x0 x1 : Value} (r0 : w.cell? ⟨b, 0, none⟩ = some x0) (r1 : w.cell? ⟨b, 1, none⟩ = some x1) :
    ((w.setCell ⟨b, 0, none⟩ u0).setCell ⟨b, 1, none⟩ u1).cell? ⟨b, 0, none⟩ = some u0 ∧ ((w.setCell ⟨b, 0, none⟩ u0).setCell ⟨b, 1, none⟩ u1).cell? ⟨b, 1, none⟩ = some u1 ∧
    (∀ B, B ≤ b → Below B w ((w.setCell ⟨b, 0, none⟩ u0).setCell ⟨b, 1, none⟩ u1)) ∧
    (∀ g, g ≠ b → ((w.setCell ⟨b, 0, none⟩ u0).setCell ⟨b, 1, none⟩ u1).heap[g]? = w.heap[g]?) ∧ ((w.setCell ⟨b, 0, none⟩ u0).setCell ⟨b, 1, none⟩ u1).heap.size = w.heap.size := by
  refine ⟨?_, ?_, fun B hB => ((Below.refl _ _).setCell hB _).setCell hB _, fun g hg => ?_, by simp [World.setCell]⟩
  · rw [World.cell?_setCell_other _ _ _ _ (by intro e; injection e with _ e; omega)]
    exact World.cell?_setCell_same _ _ _ (by rw [r0])
  · exact World.cell?_setCell_same _ _ _ (by rw [World.cell?_setCell_other _ _ _ _ (by intro e; injection e with _ e; omega), r1])
  · rw [Below.heap_setCell _ _ _ _ hg, Below.heap_setCell _ _ _ _ hg]
theorem size_any (z0 z1 : Value) (m : Mt) (w : World) (B : Nat) (h0 : SV w B z0 m.1) (h1 : SV w B z1 m.2) (hl : m.1.length + m.2.length ≤ 1000000) :
    Calls Try.prog 65 #[.agg #[z0, z1]] w fun e w' => e = .returned (.int .i64 ((m.1.length + m.2.length : Nat) : Int)) ∧ Below w.heap.size w w' := by
  obtain ⟨A0, c0, rfl, _⟩ := h0
  obtain ⟨A1, c1, rfl, _⟩ := h1
  obtain ⟨n0, hn0⟩ : ∃ n, n = m.1.length := ⟨_, rfl⟩
  obtain ⟨n1, hn1⟩ : ∃ n, n = m.2.length := ⟨_, rfl⟩
  rw [← hn0, ← hn1] at hl ⊢
  clear hn0 hn1
  obtain ⟨N, hN⟩ : ∃ N, n0 + n1 = N := ⟨_, rfl⟩
  have hw : IntKind.i64.wrap ((n0 : Int) + (n1 : Int)) = (N : Int) := by rw [IntKind.wrap_i64]; omega
  rw [hN]
  have HN := Lib.hid hN
  clear hN
  go_enter Try.func65, Try.ntmps65
  go_wp2_with fail
  go_ret
  exact ⟨rfl, (Below.refl _ _).alloc (Nat.le_refl _) _⟩
set_option maxHeartbeats 2000000 in
theorem cloned_any (z0 z1 : Value) (m : Mt) (hm : m.1.length ≤ 40000 ∧ m.2.length ≤ 40000) (w : World) (h0 : SV w w.heap.size z0 m.1) (h1 : SV w w.heap.size z1 m.2) :
    Calls Try.prog 69 #[.agg #[z0, z1]] w fun e w' => ∃ y0 y1, e = .returned (.agg #[y0, y1]) ∧ SV w' w'.heap.size y0 m.1 ∧ SV w' w'.heap.size y1 m.2 ∧ Below w.heap.size w w' ∧ Fr w.heap.size y0 ∧ Fr w.heap.size y1 := by
  obtain ⟨X, hX⟩ : ∃ X, w.alloc (.cells #[z0, z1] 60) = X := ⟨_, rfl⟩
  obtain ⟨W0, hW0⟩ : ∃ W0, X.alloc (.cells #[.slice none 0 0, .slice none 0 0] 60) = W0 := ⟨_, rfl⟩
  have bX : Below w.heap.size w X := by rw [← hX]; exact (Below.refl _ _).alloc (Nat.le_refl _) _
  have sX : X.heap.size = w.heap.size + 1 := by rw [← hX]; simp
  have bW : Below X.heap.size X W0 := by rw [← hW0]; exact (Below.refl _ _).alloc (Nat.le_refl _) _
  have sW : W0.heap.size = w.heap.size + 2 := by rw [← hW0]; simp [sX]
  obtain ⟨x0, x1⟩ := box2 w z0 z1 60
  rw [hX] at x0 x1
  obtain ⟨r0, r1⟩ := box2 X (.slice none 0 0) (.slice none 0 0) 60
  rw [hW0, sX] at r0 r1
  have x0' := (bW.cell (p := ⟨w.heap.size, 0, none⟩) (by rw [sX]; exact Nat.lt_succ_self _)).trans x0
  have x1' := (bW.cell (p := ⟨w.heap.size, 1, none⟩) (by rw [sX]; exact Nat.lt_succ_self _)).trans x1
  have fW : ∀ j, W0.frozen? ⟨w.heap.size + 1, j, none⟩ = false := fun j => by rw [← hW0, ← sX]; simp
  have HK : Hid (∀ W, Below W0.heap.size W0 W → W.cell? ⟨w.heap.size, 0, none⟩ = some z0 ∧ W.cell? ⟨w.heap.size, 1, none⟩ = some z1 ∧ W.cell? ⟨w.heap.size + 1, 0, none⟩ = some (.slice none 0 0) ∧ W.cell? ⟨w.heap.size + 1, 1, none⟩ = some (.slice none 0 0) ∧ W.frozen? ⟨w.heap.size + 1, 0, none⟩ = false ∧ W.frozen? ⟨w.heap.size + 1, 1, none⟩ = false) := fun W hb => by
    refine ⟨(hb.cell (by rw [sW]; show w.heap.size < _; omega)).trans x0', (hb.cell (by rw [sW]; show w.heap.size < _; omega)).trans x1', (hb.cell (by rw [sW]; show w.heap.size + 1 < _; omega)).trans r0, (hb.cell (by rw [sW]; show w.heap.size + 1 < _; omega)).trans r1, ?_, ?_⟩
    · rw [hb.frozen (by rw [sW]; show w.heap.size + 1 < _; omega)]; exact fW 0
    · rw [hb.frozen (by rw [sW]; show w.heap.size + 1 < _; omega)]; exact fW 1
  have bw := bX.trans (bW.mono (by omega))
  have HBW := Lib.hid bw
  have HXW : Hid ((w.alloc (.cells #[z0, z1] 60)).alloc (.cells #[.slice none 0 0, .slice none 0 0] 60) = W0) := by show _ = _; rw [hX, hW0]
  obtain ⟨n1, hn1⟩ : ∃ n, n = m.1.length := ⟨_, rfl⟩
  obtain ⟨n2, hn2⟩ : ∃ n, n = m.2.length := ⟨_, rfl⟩
  have KC : Hid (∀ W, Below W0.heap.size W0 W → Calls Try.prog 87 #[z0] W fun e w' => ∃ A' c', e = .returned (.slice A' n1 c') ∧ SV w' w'.heap.size (.slice A' n1 c') m.1 ∧ Below W0.heap.size W0 w' ∧ Below W.heap.size W w' ∧ Fr W0.heap.size (.slice A' n1 c')) := fun W hb =>
    (clone_any z0 m.1 hm.1 W (h0.up (bw.trans (hb.mono bw.size)))).mono fun e w' ⟨v', e1, s1, b1, f1⟩ => by
      obtain ⟨A', c', rfl, k1, k2, k3⟩ := s1
      rw [← hn1] at e1 f1
      exact ⟨A', c', e1, ⟨A', c', by rw [hn1], k1, k2, k3⟩, hb.trans (b1.mono hb.size), b1, f1.le hb.size⟩
  have KD : Hid (∀ W, Below W0.heap.size W0 W → Calls Try.prog 87 #[z1] W fun e w' => ∃ A' c', e = .returned (.slice A' n2 c') ∧ SV w' w'.heap.size (.slice A' n2 c') m.2 ∧ Below W0.heap.size W0 w' ∧ Below W.heap.size W w' ∧ Fr W0.heap.size (.slice A' n2 c')) := fun W hb =>
    (clone_any z1 m.2 hm.2 W (h1.up (bw.trans (hb.mono bw.size)))).mono fun e w' ⟨v', e1, s1, b1, f1⟩ => by
      obtain ⟨A', c', rfl, k1, k2, k3⟩ := s1
      rw [← hn2] at e1 f1
      exact ⟨A', c', e1, ⟨A', c', by rw [hn2], k1, k2, k3⟩, hb.trans (b1.mono hb.size), b1, f1.le hb.size⟩
  have BR := Lib.hid (Below.refl W0.heap.size W0)
  have hsW : w.heap.size + 2 ≤ W0.heap.size := by omega
  clear hX hW0 bX sX bW sW x0 x1 r0 r1 x0' x1' fW bw h0 h1 hn1 hn2
  go_enter Try.func69, Try.ntmps69
  go_wp2_with fail
  rw [HXW.out]
  go_region_held3 (fun W => W.cell? ⟨w.heap.size, 0, none⟩ = some z0 ∧ W.cell? ⟨w.heap.size, 1, none⟩ = some z1)
    (first | exact ⟨(HK.out _ BR.out.drew).1, (HK.out _ BR.out.drew).2.1⟩ | exact ⟨(HK.out _ (by assumption)).1, (HK.out _ (by assumption)).2.1⟩ | exact keep2 _ _ 0 _ _ _ _ ⟨(HK.out _ b4).1, (HK.out _ b4).2.1⟩)
    (first
      | (go_at_call 87; (with_reducible refine (KC.out _ BR.out.drew).mono ?_); rintro e w3 ⟨A3, c3, rfl, s3, b3, _, t3⟩)
      | (go_at_call 87; (with_reducible refine (KD.out _ (by assumption)).mono ?_); rintro e w4 ⟨A4, c4, rfl, s4, b4, b34, t4⟩; obtain ⟨_, _, r0, r1, f0, f1⟩ := HK.out _ b4)
      | (go_at_call 87; (with_reducible refine (KD.out _ BR.out.drew).mono ?_); rintro e w3 ⟨A3, c3, rfl, s3, b3, _, t3⟩)
      | (go_at_call 87; (with_reducible refine (KC.out _ (by assumption)).mono ?_); rintro e w4 ⟨A4, c4, rfl, s4, b4, b34, t4⟩; obtain ⟨_, _, r0, r1, f0, f1⟩ := HK.out _ b4))
  have s3' := s3.up b34
  obtain ⟨q0, q1, hbs, hg, hsz⟩ := stored2 (w := w4) (b := w.heap.size + 1) (u0 := .slice A3 n1 c3) (u1 := .slice A4 n2 c4) r0 r1
  have hsv : ∀ v l, SV w4 w4.heap.size v l → Fr W0.heap.size v → SV _ _ v l := fun v l h hf => h.away (w' := (w4.setCell ⟨w.heap.size + 1, 0, none⟩ (.slice A3 n1 c3)).setCell ⟨w.heap.size + 1, 1, none⟩ (.slice A4 n2 c4)) (B' := ((w4.setCell ⟨w.heap.size + 1, 0, none⟩ (.slice A3 n1 c3)).setCell ⟨w.heap.size + 1, 1, none⟩ (.slice A4 n2 c4)).heap.size) hf (fun g h1 _ => hg g (by omega)) (by rw [hsz]; exact Nat.le_refl _)
  go_wp2_with fail
  refine bodyPost_ret (v := .agg #[.slice A3 n1 c3, .slice A4 n2 c4]) ?_ rfl ⟨_, _, rfl, hsv _ _ s3' t3, hsv _ _ s4 t4, (HBW.out.trans (b4.mono HBW.out.size)).trans (hbs _ (by omega)), t3.le HBW.out.size, t4.le HBW.out.size⟩
  simp [results, Try.results69, go_sem, q0, q1]
end Go.Proofs.Ytafbjadlklcicaa
