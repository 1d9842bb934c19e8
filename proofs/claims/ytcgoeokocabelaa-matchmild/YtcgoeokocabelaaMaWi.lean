/- (Match).with. -/
import Derived.Test.YtcgoeokocabelaaMaCl
namespace Go.Proofs.Ytcgoeokocabelaa
open Go.RowKit
set_option maxRecDepth 100000

theorem SV.cs {w : World} {B : Nat} {A : Option Addr} {n c : Nat} {l : List Sp} (h : SV w B (.slice A n c) l) : n = l.length ∧ CS w B A (spCs l) := by
  obtain ⟨A', c', e, _, _, h3⟩ := h
  injection e with e1 e2 e3
  subst e1 e3
  exact ⟨e2, h3⟩
/-- Two slices of spans in a block of their own, joined. -/
theorem join_any (b : Nat) (A1 A2 : Option Addr) (n1 c1 n2 c2 B N : Nat) (l m : List Sp) (HN : Hid (n1 + n2 = N)) (hN : N ≤ 40000) (w : World)
    (y1 : w.cell? ⟨b, 0, none⟩ = some (.slice A1 n1 c1)) (y2 : w.cell? ⟨b, 1, none⟩ = some (.slice A2 n2 c2)) (hB : B ≤ w.heap.size) (h1 : SV w B (.slice A1 n1 c1) l) (h2 : SV w B (.slice A2 n2 c2) m) :
    Calls Try.prog 89 #[.slice (some ⟨b, 0, none⟩) 2 2] w fun e w' => ∃ A' c', e = .returned (.slice A' N c') ∧ SV w' w'.heap.size (.slice A' N c') (l ++ m) ∧ Below w.heap.size w w' ∧ Fr w.heap.size (.slice A' N c') := by
  obtain ⟨e1, k1⟩ := h1.cs
  obtain ⟨e2, k2⟩ := h2.cs
  have hn := HN.out
  refine (concat_S b A1 A2 n1 c1 n2 c2 B N (spCs l) (spCs m) HN ⟨by rw [spCs_len, e1], spCs_one l⟩ ⟨by rw [spCs_len, e2], spCs_one m⟩ (by omega) (by omega) w y1 y2 hB k1 k2).mono ?_
  rintro e w' ⟨v, rfl, hown, hb⟩
  rw [← spCs_app] at hown
  obtain ⟨A', c', rfl, _⟩ := own_form hown
  exact ⟨A', c', rfl, SV.own hown (by rw [List.length_append]; omega), hb, Fr.own hown⟩
theorem keep4 (W : World) (a : Nat) (u0 u1 x0 x1 x2 x3 : Value) (h : W.cell? ⟨a, 0, none⟩ = some x0 ∧ W.cell? ⟨a, 1, none⟩ = some x1 ∧ W.cell? ⟨a + 1, 0, none⟩ = some x2 ∧ W.cell? ⟨a + 1, 1, none⟩ = some x3) :
    ((W.setCell ⟨a + 1 + 1, 0, none⟩ u0).setCell ⟨a + 1 + 1, 1, none⟩ u1).cell? ⟨a, 0, none⟩ = some x0 ∧ ((W.setCell ⟨a + 1 + 1, 0, none⟩ u0).setCell ⟨a + 1 + 1, 1, none⟩ u1).cell? ⟨a, 1, none⟩ = some x1 ∧ ((W.setCell ⟨a + 1 + 1, 0, none⟩ u0).setCell ⟨a + 1 + 1, 1, none⟩ u1).cell? ⟨a + 1, 0, none⟩ = some x2 ∧ ((W.setCell ⟨a + 1 + 1, 0, none⟩ u0).setCell ⟨a + 1 + 1, 1, none⟩ u1).cell? ⟨a + 1, 1, none⟩ = some x3 := by
  refine ⟨?_, ?_, ?_, ?_⟩
  · rw [World.cell?_setCell_other _ _ _ _ (by intro e; injection e with e _; omega), World.cell?_setCell_other _ _ _ _ (by intro e; injection e with e _; omega)]; exact h.1
  · rw [World.cell?_setCell_other _ _ _ _ (by intro e; injection e with e _; omega), World.cell?_setCell_other _ _ _ _ (by intro e; injection e with e _; omega)]; exact h.2.1
  · rw [World.cell?_setCell_other _ _ _ _ (by intro e; injection e with e _; omega), World.cell?_setCell_other _ _ _ _ (by intro e; injection e with e _; omega)]; exact h.2.2.1
  · rw [World.cell?_setCell_other _ _ _ _ (by intro e; injection e with e _; omega), World.cell?_setCell_other _ _ _ _ (by intro e; injection e with e _; omega)]; exact h.2.2.2
/-- Two blocks of two cells, one behind the other. -/
theorem box2n (w : World) (o : Obj) (z0 z1 : Value) (t : TypeId) : ((w.alloc o).alloc (.cells #[z0, z1] t)).cell? ⟨w.heap.size + 1, 0, none⟩ = some z0 ∧ ((w.alloc o).alloc (.cells #[z0, z1] t)).cell? ⟨w.heap.size + 1, 1, none⟩ = some z1 := by
  have h := box2 (w.alloc o) z0 z1 t
  rw [show (w.alloc o).heap.size = w.heap.size + 1 by simp] at h
  exact h
theorem box2o (w : World) (o : Obj) (z0 z1 : Value) (t : TypeId) : ((w.alloc (.cells #[z0, z1] t)).alloc o).cell? ⟨w.heap.size, 0, none⟩ = some z0 ∧ ((w.alloc (.cells #[z0, z1] t)).alloc o).cell? ⟨w.heap.size, 1, none⟩ = some z1 := by
  have h := box2 w z0 z1 t
  have b : Below (w.alloc (.cells #[z0, z1] t)).heap.size (w.alloc (.cells #[z0, z1] t)) ((w.alloc (.cells #[z0, z1] t)).alloc o) := (Below.refl _ _).alloc (Nat.le_refl _) _
  exact ⟨(b.cell (p := ⟨w.heap.size, 0, none⟩) (by simp)).trans h.1, (b.cell (p := ⟨w.heap.size, 1, none⟩) (by simp)).trans h.2⟩
set_option maxHeartbeats 2000000 in
theorem with_any (A0 A1 A2 A3 : Option Addr) (n0 c0 n1 c1 n2 c2 n3 c3 N M : Nat) (a b : Mt) (HN : Hid (n0 + n2 = N ∧ n1 + n3 = M)) (hN : N ≤ 40000 ∧ M ≤ 40000) (w : World)
    (h0 : SV w w.heap.size (.slice A0 n0 c0) a.1) (h1 : SV w w.heap.size (.slice A1 n1 c1) a.2) (h2 : SV w w.heap.size (.slice A2 n2 c2) b.1) (h3 : SV w w.heap.size (.slice A3 n3 c3) b.2) :
    Calls Try.prog 51 #[.agg #[.slice A0 n0 c0, .slice A1 n1 c1], .agg #[.slice A2 n2 c2, .slice A3 n3 c3]] w fun e w' => ∃ B0 d0 B1 d1, e = .returned (.agg #[.slice B0 N d0, .slice B1 M d1]) ∧ SV w' w'.heap.size (.slice B0 N d0) (a.1 ++ b.1) ∧ SV w' w'.heap.size (.slice B1 M d1) (a.2 ++ b.2) ∧ Below w.heap.size w w' ∧ Fr w.heap.size (.slice B0 N d0) ∧ Fr w.heap.size (.slice B1 M d1) := by
  obtain ⟨X, hX⟩ : ∃ X, w.alloc (.cells #[.slice A0 n0 c0, .slice A1 n1 c1] 34) = X := ⟨_, rfl⟩
  obtain ⟨Y, hY⟩ : ∃ Y, X.alloc (.cells #[.slice A2 n2 c2, .slice A3 n3 c3] 34) = Y := ⟨_, rfl⟩
  obtain ⟨W0, hW0⟩ : ∃ W0, Y.alloc (.cells #[.slice none 0 0, .slice none 0 0] 34) = W0 := ⟨_, rfl⟩
  have bX : Below w.heap.size w X := by rw [← hX]; exact (Below.refl _ _).alloc (Nat.le_refl _) _
  have sX : X.heap.size = w.heap.size + 1 := by rw [← hX]; simp
  have bY : Below X.heap.size X Y := by rw [← hY]; exact (Below.refl _ _).alloc (Nat.le_refl _) _
  have sY : Y.heap.size = w.heap.size + 1 + 1 := by rw [← hY]; simp [sX]
  have bW : Below Y.heap.size Y W0 := by rw [← hW0]; exact (Below.refl _ _).alloc (Nat.le_refl _) _
  have sW : W0.heap.size = w.heap.size + 3 := by rw [← hW0]; simp [sY]
  obtain ⟨x0, x1⟩ := box2 w (.slice A0 n0 c0) (.slice A1 n1 c1) 34
  rw [hX] at x0 x1
  obtain ⟨x2, x3⟩ := box2 X (.slice A2 n2 c2) (.slice A3 n3 c3) 34
  rw [hY, sX] at x2 x3
  obtain ⟨r0, r1⟩ := box2 Y (.slice none 0 0) (.slice none 0 0) 34
  rw [hW0, sY] at r0 r1
  have bXW : Below X.heap.size X W0 := bY.trans (bW.mono (by omega))
  have x0' := (bXW.cell (p := ⟨w.heap.size, 0, none⟩) (by rw [sX]; exact Nat.lt_succ_self _)).trans x0
  have x1' := (bXW.cell (p := ⟨w.heap.size, 1, none⟩) (by rw [sX]; exact Nat.lt_succ_self _)).trans x1
  have x2' := (bW.cell (p := ⟨w.heap.size + 1, 0, none⟩) (by rw [sY]; exact Nat.lt_succ_self _)).trans x2
  have x3' := (bW.cell (p := ⟨w.heap.size + 1, 1, none⟩) (by rw [sY]; exact Nat.lt_succ_self _)).trans x3
  have fW : ∀ j, W0.frozen? ⟨w.heap.size + 1 + 1, j, none⟩ = false := fun j => by rw [← hW0, ← sY]; simp
  have HK : Hid (∀ W, Below W0.heap.size W0 W → (W.cell? ⟨w.heap.size, 0, none⟩ = some (.slice A0 n0 c0) ∧ W.cell? ⟨w.heap.size, 1, none⟩ = some (.slice A1 n1 c1) ∧ W.cell? ⟨w.heap.size + 1, 0, none⟩ = some (.slice A2 n2 c2) ∧ W.cell? ⟨w.heap.size + 1, 1, none⟩ = some (.slice A3 n3 c3)) ∧ W.cell? ⟨w.heap.size + 1 + 1, 0, none⟩ = some (.slice none 0 0) ∧ W.cell? ⟨w.heap.size + 1 + 1, 1, none⟩ = some (.slice none 0 0) ∧ W.frozen? ⟨w.heap.size + 1 + 1, 0, none⟩ = false ∧ W.frozen? ⟨w.heap.size + 1 + 1, 1, none⟩ = false) := fun W hb => by
    refine ⟨⟨(hb.cell (by rw [sW]; show w.heap.size < _; omega)).trans x0', (hb.cell (by rw [sW]; show w.heap.size < _; omega)).trans x1', (hb.cell (by rw [sW]; show w.heap.size + 1 < _; omega)).trans x2', (hb.cell (by rw [sW]; show w.heap.size + 1 < _; omega)).trans x3'⟩, (hb.cell (by rw [sW]; show w.heap.size + 1 + 1 < _; omega)).trans r0, (hb.cell (by rw [sW]; show w.heap.size + 1 + 1 < _; omega)).trans r1, ?_, ?_⟩
    · rw [hb.frozen (by rw [sW]; show w.heap.size + 1 + 1 < _; omega)]; exact fW 0
    · rw [hb.frozen (by rw [sW]; show w.heap.size + 1 + 1 < _; omega)]; exact fW 1
  have bw := bX.trans (bXW.mono (by omega))
  have HBW := Lib.hid bw
  have HXW : Hid (((w.alloc (.cells #[.slice A0 n0 c0, .slice A1 n1 c1] 34)).alloc (.cells #[.slice A2 n2 c2, .slice A3 n3 c3] 34)).alloc (.cells #[.slice none 0 0, .slice none 0 0] 34) = W0) := by show _ = _; rw [hX, hY, hW0]
  have BR : Hid (∀ o, Below W0.heap.size W0 ((W0.alloc o).drew)) := fun o => ((Below.refl W0.heap.size W0).alloc (Nat.le_refl _) o).drew
  have BR2 : Hid (∀ o o', Below W0.heap.size W0 (((W0.alloc o).alloc o').drew)) := fun o o' => (((Below.refl W0.heap.size W0).alloc (Nat.le_refl _) o).alloc (by simp) o').drew
  have BA : Hid (∀ W o, Below W0.heap.size W0 W → Below W0.heap.size W0 (W.alloc o)) := fun W o hb => hb.alloc hb.size o
  have JC : ∀ X p, Below W0.heap.size W0 X → X.cell? ⟨p, 0, none⟩ = some (.slice A0 n0 c0) → X.cell? ⟨p, 1, none⟩ = some (.slice A2 n2 c2) → Calls Try.prog 89 #[.slice (some ⟨p, 0, none⟩) 2 2] X fun e w' => ∃ A' c', e = .returned (.slice A' N c') ∧ SV w' w'.heap.size (.slice A' N c') (a.1 ++ b.1) ∧ Below X.heap.size X w' ∧ Below W0.heap.size W0 w' ∧ Fr W0.heap.size (.slice A' N c') := fun X p hb g0 g1 => by
    have kw := bw.trans (hb.mono bw.size)
    exact (join_any p A0 A2 n0 c0 n2 c2 _ N a.1 b.1 HN.out.1 hN.1 X g0 g1 (Nat.le_refl _) (h0.up kw) (h2.up kw)).mono fun e w' ⟨A', c', e1, s1, b1, f1⟩ => ⟨A', c', e1, s1, b1, hb.trans (b1.mono hb.size), f1.le hb.size⟩
  have JD : ∀ X p, Below W0.heap.size W0 X → X.cell? ⟨p, 0, none⟩ = some (.slice A1 n1 c1) → X.cell? ⟨p, 1, none⟩ = some (.slice A3 n3 c3) → Calls Try.prog 89 #[.slice (some ⟨p, 0, none⟩) 2 2] X fun e w' => ∃ A' c', e = .returned (.slice A' M c') ∧ SV w' w'.heap.size (.slice A' M c') (a.2 ++ b.2) ∧ Below X.heap.size X w' ∧ Below W0.heap.size W0 w' ∧ Fr W0.heap.size (.slice A' M c') := fun X p hb g0 g1 => by
    have kw := bw.trans (hb.mono bw.size)
    exact (join_any p A1 A3 n1 c1 n3 c3 _ M a.2 b.2 HN.out.2 hN.2 X g0 g1 (Nat.le_refl _) (h1.up kw) (h3.up kw)).mono fun e w' ⟨A', c', e1, s1, b1, f1⟩ => ⟨A', c', e1, s1, b1, hb.trans (b1.mono hb.size), f1.le hb.size⟩
  have K1 : Hid (Calls Try.prog 89 #[.slice (some ⟨W0.heap.size, 0, none⟩) 2 2] ((W0.alloc (.cells #[.slice A0 n0 c0, .slice A2 n2 c2] 32)).drew) fun e w' => ∃ A' c', e = .returned (.slice A' N c') ∧ SV w' w'.heap.size (.slice A' N c') (a.1 ++ b.1) ∧ Below (W0.alloc (.cells #[.slice A0 n0 c0, .slice A2 n2 c2] 32)).heap.size ((W0.alloc (.cells #[.slice A0 n0 c0, .slice A2 n2 c2] 32)).drew) w' ∧ Below W0.heap.size W0 w' ∧ Fr W0.heap.size (.slice A' N c')) := JC _ _ (BR.out _) (box2 W0 _ _ _).1 (box2 W0 _ _ _).2
  have K2 : Hid (∀ w4, Below W0.heap.size W0 w4 → Calls Try.prog 89 #[.slice (some ⟨w4.heap.size, 0, none⟩) 2 2] (w4.alloc (.cells #[.slice A1 n1 c1, .slice A3 n3 c3] 32)) fun e w' => ∃ A' c', e = .returned (.slice A' M c') ∧ SV w' w'.heap.size (.slice A' M c') (a.2 ++ b.2) ∧ Below w4.heap.size w4 w' ∧ Below W0.heap.size W0 w' ∧ Fr W0.heap.size (.slice A' M c')) := fun w4 hb =>
    (JD _ _ (BA.out _ _ hb) (box2 w4 _ _ _).1 (box2 w4 _ _ _).2).mono fun e w' ⟨A', c', e1, s1, b1, k1, f1⟩ => ⟨A', c', e1, s1, ((Below.refl w4.heap.size w4).alloc (Nat.le_refl _) _).trans (b1.mono (by simp)), k1, f1⟩
  have K3 : Hid (Calls Try.prog 89 #[.slice (some ⟨W0.heap.size, 0, none⟩) 2 2] (((W0.alloc (.cells #[.slice A0 n0 c0, .slice A2 n2 c2] 32)).alloc (.cells #[.slice A1 n1 c1, .slice A3 n3 c3] 32)).drew) fun e w' => ∃ A' c', e = .returned (.slice A' N c') ∧ SV w' w'.heap.size (.slice A' N c') (a.1 ++ b.1) ∧ Below ((W0.alloc (.cells #[.slice A0 n0 c0, .slice A2 n2 c2] 32)).alloc (.cells #[.slice A1 n1 c1, .slice A3 n3 c3] 32)).heap.size (((W0.alloc (.cells #[.slice A0 n0 c0, .slice A2 n2 c2] 32)).alloc (.cells #[.slice A1 n1 c1, .slice A3 n3 c3] 32)).drew) w' ∧ Below W0.heap.size W0 w' ∧ Fr W0.heap.size (.slice A' N c')) := JC _ _ (BR2.out _ _) (box2o W0 _ _ _ _).1 (box2o W0 _ _ _ _).2
  have K4 : Hid (∀ w4, Below W0.heap.size W0 w4 → Below ((W0.alloc (.cells #[.slice A0 n0 c0, .slice A2 n2 c2] 32)).alloc (.cells #[.slice A1 n1 c1, .slice A3 n3 c3] 32)).heap.size (((W0.alloc (.cells #[.slice A0 n0 c0, .slice A2 n2 c2] 32)).alloc (.cells #[.slice A1 n1 c1, .slice A3 n3 c3] 32)).drew) w4 → Calls Try.prog 89 #[.slice (some ⟨W0.heap.size + 1, 0, none⟩) 2 2] w4 fun e w' => ∃ A' c', e = .returned (.slice A' M c') ∧ SV w' w'.heap.size (.slice A' M c') (a.2 ++ b.2) ∧ Below w4.heap.size w4 w' ∧ Below W0.heap.size W0 w' ∧ Fr W0.heap.size (.slice A' M c')) := fun w4 hb h4 => JD _ _ hb ((h4.cell (p := ⟨W0.heap.size + 1, 0, none⟩) (by simp)).trans (box2n W0 _ _ _ _).1) ((h4.cell (p := ⟨W0.heap.size + 1, 1, none⟩) (by simp)).trans (box2n W0 _ _ _ _).2)
  have K5 : Hid (Calls Try.prog 89 #[.slice (some ⟨W0.heap.size + 1, 0, none⟩) 2 2] (((W0.alloc (.cells #[.slice A1 n1 c1, .slice A3 n3 c3] 32)).alloc (.cells #[.slice A0 n0 c0, .slice A2 n2 c2] 32)).drew) fun e w' => ∃ A' c', e = .returned (.slice A' N c') ∧ SV w' w'.heap.size (.slice A' N c') (a.1 ++ b.1) ∧ Below ((W0.alloc (.cells #[.slice A1 n1 c1, .slice A3 n3 c3] 32)).alloc (.cells #[.slice A0 n0 c0, .slice A2 n2 c2] 32)).heap.size (((W0.alloc (.cells #[.slice A1 n1 c1, .slice A3 n3 c3] 32)).alloc (.cells #[.slice A0 n0 c0, .slice A2 n2 c2] 32)).drew) w' ∧ Below W0.heap.size W0 w' ∧ Fr W0.heap.size (.slice A' N c')) := JC _ _ (BR2.out _ _) (box2n W0 _ _ _ _).1 (box2n W0 _ _ _ _).2
  have K6 : Hid (∀ w4, Below W0.heap.size W0 w4 → Below ((W0.alloc (.cells #[.slice A1 n1 c1, .slice A3 n3 c3] 32)).alloc (.cells #[.slice A0 n0 c0, .slice A2 n2 c2] 32)).heap.size (((W0.alloc (.cells #[.slice A1 n1 c1, .slice A3 n3 c3] 32)).alloc (.cells #[.slice A0 n0 c0, .slice A2 n2 c2] 32)).drew) w4 → Calls Try.prog 89 #[.slice (some ⟨W0.heap.size, 0, none⟩) 2 2] w4 fun e w' => ∃ A' c', e = .returned (.slice A' M c') ∧ SV w' w'.heap.size (.slice A' M c') (a.2 ++ b.2) ∧ Below w4.heap.size w4 w' ∧ Below W0.heap.size W0 w' ∧ Fr W0.heap.size (.slice A' M c')) := fun w4 hb h4 => JD _ _ hb ((h4.cell (p := ⟨W0.heap.size, 0, none⟩) (by simp; omega)).trans (box2o W0 _ _ _ _).1) ((h4.cell (p := ⟨W0.heap.size, 1, none⟩) (by simp; omega)).trans (box2o W0 _ _ _ _).2)
  have BR0 := Lib.hid (Below.refl W0.heap.size W0)
  have hsW : w.heap.size + 3 ≤ W0.heap.size := by omega
  clear hX hY hW0 bX sX bY sY bW sW bXW x0 x1 x2 x3 r0 r1 x0' x1' x2' x3' fW bw h0 h1 h2 h3 JC JD
  go_enter Try.func51, Try.ntmps51
  go_wp2_with fail
  rw [HXW.out]
  go_region_held3 (fun W => W.cell? ⟨w.heap.size, 0, none⟩ = some (.slice A0 n0 c0) ∧ W.cell? ⟨w.heap.size, 1, none⟩ = some (.slice A1 n1 c1) ∧ W.cell? ⟨w.heap.size + 1, 0, none⟩ = some (.slice A2 n2 c2) ∧ W.cell? ⟨w.heap.size + 1, 1, none⟩ = some (.slice A3 n3 c3))
    (first | exact (HK.out _ BR0.out.drew).1 | exact (HK.out _ (BR.out _)).1 | exact (HK.out _ (BR2.out _ _)).1 | exact (HK.out _ k4).1 | exact (HK.out _ (BA.out _ _ k4)).1 | exact (HK.out _ k5).1 | exact keep4 _ _ _ _ _ _ _ _ (HK.out _ k5).1)
    (first
      | (go_at_call 89; (with_reducible refine K1.out.mono ?_); rintro e w4 ⟨B0, d0, rfl, s4, b4, k4, t4⟩)
      | (go_at_call 89; (with_reducible refine K3.out.mono ?_); rintro e w4 ⟨B0, d0, rfl, s4, b4, k4, t4⟩)
      | (go_at_call 89; (with_reducible refine K5.out.mono ?_); rintro e w4 ⟨B0, d0, rfl, s4, b4, k4, t4⟩)
      | (go_at_call 89; (with_reducible refine (K2.out _ k4).mono ?_); rintro e w5 ⟨B1, d1, rfl, s5, b45, k5, t5⟩; obtain ⟨_, r0, r1, f0, f1⟩ := HK.out _ k5)
      | (go_at_call 89; (with_reducible refine (K4.out _ k4 b4).mono ?_); rintro e w5 ⟨B1, d1, rfl, s5, b45, k5, t5⟩; obtain ⟨_, r0, r1, f0, f1⟩ := HK.out _ k5)
      | (go_at_call 89; (with_reducible refine (K6.out _ k4 b4).mono ?_); rintro e w5 ⟨B1, d1, rfl, s5, b45, k5, t5⟩; obtain ⟨_, r0, r1, f0, f1⟩ := HK.out _ k5))
  all_goals
    have s4' := s4.up b45
    obtain ⟨q0, q1, hbs, hg, hsz⟩ := stored2 (w := w5) (b := w.heap.size + 1 + 1) (u0 := .slice B0 N d0) (u1 := .slice B1 M d1) r0 r1
    have hsv : ∀ v l, SV w5 w5.heap.size v l → Fr W0.heap.size v → SV _ _ v l := fun v l h hf => h.away (w' := (w5.setCell ⟨w.heap.size + 1 + 1, 0, none⟩ (.slice B0 N d0)).setCell ⟨w.heap.size + 1 + 1, 1, none⟩ (.slice B1 M d1)) (B' := ((w5.setCell ⟨w.heap.size + 1 + 1, 0, none⟩ (.slice B0 N d0)).setCell ⟨w.heap.size + 1 + 1, 1, none⟩ (.slice B1 M d1)).heap.size) hf (fun g h1 _ => hg g (by omega)) (by rw [hsz]; exact Nat.le_refl _)
    go_wp2_with fail
    refine bodyPost_ret (v := .agg #[.slice B0 N d0, .slice B1 M d1]) ?_ rfl ⟨_, _, _, _, rfl, hsv _ _ s4' t4, hsv _ _ s5 t5, (HBW.out.trans (k5.mono HBW.out.size)).trans (hbs _ (by omega)), t4.le HBW.out.size, t5.le HBW.out.size⟩
    simp [results, Try.results51, go_sem, q0, q1]
end Go.Proofs.Ytcgoeokocabelaa
