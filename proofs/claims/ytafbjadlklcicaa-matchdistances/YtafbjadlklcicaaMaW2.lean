/- Window, Same. -/
import Derived.Test.YtafbjadlklcicaaMaWn
import Derived.Laws.EntriesVeiled
namespace Go.Proofs.Ytafbjadlklcicaa
open Go.RowKit Go.Shelf
set_option maxRecDepth 100000

theorem sv_lit1 (w : World) (s : Sp) : SV (w.alloc (.cells #[.int .i64 s.1, .int .i64 s.2.1, .int .i64 s.2.2.1, .int .i64 s.2.2.2] 26)) (w.heap.size + 1) (.slice (some ⟨w.heap.size, 0, none⟩) 1 1) [s] :=
  ⟨_, _, rfl, Nat.le_refl _, by decide, cells_new w #[.int .i64 s.1, .int .i64 s.2.1, .int .i64 s.2.2.1, .int .i64 s.2.2.2] 26 _ (Nat.lt_succ_self _)⟩
theorem sv_lit2 (w : World) (h s : Sp) : SV (w.alloc (.cells #[.int .i64 h.1, .int .i64 h.2.1, .int .i64 h.2.2.1, .int .i64 h.2.2.2, .int .i64 s.1, .int .i64 s.2.1, .int .i64 s.2.2.1, .int .i64 s.2.2.2] 26)) (w.heap.size + 1) (.slice (some ⟨w.heap.size, 0, none⟩) 2 2) [h, s] :=
  ⟨_, _, rfl, Nat.le_refl _, by decide, cells_new w #[.int .i64 h.1, .int .i64 h.2.1, .int .i64 h.2.2.1, .int .i64 h.2.2.2, .int .i64 s.1, .int .i64 s.2.1, .int .i64 s.2.2.1, .int .i64 s.2.2.2] 26 _ (Nat.lt_succ_self _)⟩
/-- What fits, in a box. -/
abbrev fnV (Bn Bt Bu : Nat) : Value := .func (.func 50) #[] #[.pointer (some ⟨Bn, 0, none⟩), .pointer (some ⟨Bt, 0, none⟩), .pointer (some ⟨Bu, 0, none⟩)]
set_option maxHeartbeats 2000000 in
theorem win21_any (Bf Bn Bt Bu : Nat) (n f t u : Int) (A1 : Option Addr) (n1 c1 : Nat) (A2 : Option Addr) (n2 c2 : Nat) (ss ps : List Int) (s : Sp) (w : World) (hf : w.cell? ⟨Bf, 0, none⟩ = some (fnV Bn Bt Bu)) (hC : WC w Bn Bt Bu n f t u A1 n1 c1 A2 n2 c2 ss ps) :
    Calls Try.prog 53 #[spV s, .pointer (some ⟨Bf, 0, none⟩)] w fun e w' => e = .returned (.bool (!winP u ss ps n [s])) ∧ Below w.heap.size w w' := by
  obtain ⟨X, hX⟩ : ∃ X, w.alloc (.cells #[.int .i64 s.1, .int .i64 s.2.1, .int .i64 s.2.2.1, .int .i64 s.2.2.2] 26) = X := ⟨_, rfl⟩
  have bX : Below w.heap.size w X := by rw [← hX]; exact (Below.refl _ _).alloc (Nat.le_refl _) _
  have sX : X.heap.size = w.heap.size + 1 := by rw [← hX]; simp
  have hB : Box4 X w.heap.size s := by rw [← hX]; exact Box4.new w s
  obtain ⟨q0, q1, q2, q3⟩ := hB.cells
  have gf := (bX.cell (World.block_lt_of_cell? w _ hf)).trans hf
  obtain ⟨Y, hY⟩ : ∃ Y, X.alloc (.cells #[.int .i64 s.1, .int .i64 s.2.1, .int .i64 s.2.2.1, .int .i64 s.2.2.2] 26) = Y := ⟨_, rfl⟩
  have bY : Below X.heap.size X Y := by rw [← hY]; exact (Below.refl _ _).alloc (Nat.le_refl _) _
  have hsv : SV Y Y.heap.size (.slice (some ⟨X.heap.size, 0, none⟩) 1 1) [s] := by
    have h := sv_lit1 X s
    rw [hY] at h
    exact h.more (by rw [← hY]; simp)
  have KF := Lib.hid (fits_any Bn Bt Bu n f t u A1 n1 c1 A2 n2 c2 ss ps _ [s] (by simp) Y (hC.kept (Kept.of (bX.trans (bY.mono bX.size)))) hsv)
  have HB := Lib.hid (bX.trans (bY.mono bX.size))
  have HX := Lib.hid hX
  have HY := Lib.hid hY
  generalize winP u ss ps n [s] = R at KF ⊢
  clear hX hY bX bY sX hB hsv hC hf
  obtain ⟨s0, s1, s2, s3⟩ := s
  unfold spV
  unfold fnV at gf
  simp only at q0 q1 q2 q3 HX HY
  go_enter Try.func53, Try.ntmps53
  go_upto_region 1 with fail
  rw [HX.out]
  go_wp2_with fail
  rw [HY.out]
  with_reducible refine KF.out.mono ?_
  rintro e w1 ⟨rfl, b1⟩
  have HB1 := Lib.hid (HB.out.trans (b1.mono HB.out.size))
  clear b1 KF
  go_wp2_with fail
  go_ret
  exact ⟨rfl, HB1.out⟩
set_option maxHeartbeats 2000000 in
theorem win22_any (Bf Bh Bn Bt Bu : Nat) (n f t u : Int) (A1 : Option Addr) (n1 c1 : Nat) (A2 : Option Addr) (n2 c2 : Nat) (ss ps : List Int) (h s : Sp) (w : World) (hf : w.cell? ⟨Bf, 0, none⟩ = some (fnV Bn Bt Bu)) (hh : Box4 w Bh h) (hC : WC w Bn Bt Bu n f t u A1 n1 c1 A2 n2 c2 ss ps) :
    Calls Try.prog 54 #[spV s, .pointer (some ⟨Bf, 0, none⟩), .pointer (some ⟨Bh, 0, none⟩)] w fun e w' => e = .returned (.bool (!winP u ss ps n [h, s])) ∧ Below w.heap.size w w' := by
  obtain ⟨X, hX⟩ : ∃ X, w.alloc (.cells #[.int .i64 s.1, .int .i64 s.2.1, .int .i64 s.2.2.1, .int .i64 s.2.2.2] 26) = X := ⟨_, rfl⟩
  have bX : Below w.heap.size w X := by rw [← hX]; exact (Below.refl _ _).alloc (Nat.le_refl _) _
  have sX : X.heap.size = w.heap.size + 1 := by rw [← hX]; simp
  have hB : Box4 X w.heap.size s := by rw [← hX]; exact Box4.new w s
  obtain ⟨q0, q1, q2, q3⟩ := hB.cells
  obtain ⟨p0, p1, p2, p3⟩ := (hh.below bX).cells
  have gf := (bX.cell (World.block_lt_of_cell? w _ hf)).trans hf
  obtain ⟨Y, hY⟩ : ∃ Y, X.alloc (.cells #[.int .i64 h.1, .int .i64 h.2.1, .int .i64 h.2.2.1, .int .i64 h.2.2.2, .int .i64 s.1, .int .i64 s.2.1, .int .i64 s.2.2.1, .int .i64 s.2.2.2] 26) = Y := ⟨_, rfl⟩
  have bY : Below X.heap.size X Y := by rw [← hY]; exact (Below.refl _ _).alloc (Nat.le_refl _) _
  have hsv : SV Y Y.heap.size (.slice (some ⟨X.heap.size, 0, none⟩) 2 2) [h, s] := by
    have k := sv_lit2 X h s
    rw [hY] at k
    exact k.more (by rw [← hY]; simp)
  have KF := Lib.hid (fits_any Bn Bt Bu n f t u A1 n1 c1 A2 n2 c2 ss ps _ [h, s] (by simp) Y (hC.kept (Kept.of (bX.trans (bY.mono bX.size)))) hsv)
  have HB := Lib.hid (bX.trans (bY.mono bX.size))
  have HX := Lib.hid hX
  have HY := Lib.hid hY
  generalize winP u ss ps n [h, s] = R at KF ⊢
  clear hX hY bX bY sX hB hsv hC hf hh
  obtain ⟨s0, s1, s2, s3⟩ := s
  obtain ⟨h0, h1, h2, h3⟩ := h
  unfold spV
  unfold fnV at gf
  simp only at q0 q1 q2 q3 p0 p1 p2 p3 HX HY
  go_enter Try.func54, Try.ntmps54
  go_upto_region 1 with fail
  rw [HX.out]
  go_wp2_with fail
  rw [HY.out]
  with_reducible refine KF.out.mono ?_
  rintro e w1 ⟨rfl, b1⟩
  have HB1 := Lib.hid (HB.out.trans (b1.mono HB.out.size))
  clear b1 KF
  go_wp2_with fail
  go_ret
  exact ⟨rfl, HB1.out⟩
/-- What Window drops. -/
def winQ (u : Int) (ss ps : List Int) (n : Int) (l : List Sp) (s : Sp) : Bool := if l.length = 0 then !winP u ss ps n [s] else !winP u ss ps n [hullL l, s]
set_option maxHeartbeats 2000000 in
theorem winX (Bf Bn Bt Bu : Nat) (n f t u : Int) (A1 : Option Addr) (n1 c1 : Nat) (A2 : Option Addr) (n2 c2 : Nat) (ss ps : List Int) (w0 : World) (hf : w0.cell? ⟨Bf, 0, none⟩ = some (fnV Bn Bt Bu)) (hC : WC w0 Bn Bt Bu n f t u A1 n1 c1 A2 n2 c2 ss ps) :
    FnX 52 #[.pointer (some ⟨Bf, 0, none⟩)] (winQ u ss ps n) 20000 w0 := by
  refine ⟨enters_of Try.func52 (by kernel_rfl) rfl, fun W hW v l row hv hl hrow => ?_⟩
  have hr0 : ∀ r, row = some r → w0.heap.size ≤ r := fun r hr => (hrow r hr).1
  by_cases h0 : l.length = 0
  · obtain ⟨A, c, rfl, _⟩ := id hv
    have HD : Hid (FnD 53 #[.pointer (some ⟨Bf, 0, none⟩)] (winQ u ss ps n l) row W) := ⟨enters_of Try.func53 (by kernel_rfl) rfl, fun W' hg s => by
      have hk := (Kept.of hW).grown hg hr0
      have h := win21_any Bf Bn Bt Bu n f t u A1 n1 c1 A2 n2 c2 ss ps s W' (hk.cell hf) (hC.kept hk)
      unfold winQ
      rw [if_pos h0]
      exact h⟩
    rw [h0]
    clear hC hf hrow hr0 hv hW
    go_enter Try.func52, Try.ntmps52
    go_wp2_with fail
    go_ret
    exact ⟨_, _, rfl, Below.refl _ _, HD⟩
  · have hne : l ≠ [] := fun e => h0 (by rw [e]; rfl)
    have KH := Lib.hid (hull_any v l (by omega) hne W hv)
    obtain ⟨A, c, rfl, _⟩ := id hv
    have HD : Hid (∀ w1 X, Below W.heap.size W w1 → w1.alloc (.cells #[.int .i64 (lo l), .int .i64 (hi l), .int .i64 0, .int .i64 0] 26) = X → FnD 54 #[.pointer (some ⟨Bf, 0, none⟩), .pointer (some ⟨w1.heap.size, 0, none⟩)] (winQ u ss ps n l) row X ∧ Below W.heap.size W X) := fun w1 X b1 hX => by
      have bX : Below w1.heap.size w1 X := by rw [← hX]; exact (Below.refl _ _).alloc (Nat.le_refl _) _
      have bWX := b1.trans (bX.mono b1.size)
      have hB : Box4 X w1.heap.size (hullL l) := by rw [← hX]; exact Box4.new w1 (hullL l)
      refine ⟨⟨enters_of Try.func54 (by kernel_rfl) rfl, fun W' hg s => ?_⟩, bWX⟩
      have hk := (Kept.of (hW.trans (bWX.mono hW.size))).grown hg hr0
      have hB' : Box4 W' w1.heap.size (hullL l) := (hg.block _ hB.lt (fun e => by have := (hrow _ e.symm).2.1; have := b1.size; omega)).trans hB
      have h := win22_any Bf w1.heap.size Bn Bt Bu n f t u A1 n1 c1 A2 n2 c2 ss ps (hullL l) s W' (hk.cell hf) hB' (hC.kept hk)
      unfold winQ
      rw [if_neg h0]
      exact h
    obtain ⟨n0, hn0⟩ : ∃ n, n = l.length := ⟨_, rfl⟩
    rw [← hn0] at h0 KH ⊢
    have hI : ((n0 : Int) == 0) = false := beq_eq_false_iff_ne.2 (by omega)
    clear hne hn0 hl hC hf hrow hr0 hv hW
    go_enter Try.func52, Try.ntmps52
    go_wp2_with fail
    with_reducible refine KH.out.mono ?_
    rintro e w1 ⟨rfl, b1⟩
    unfold spV hullL
    simp only
    obtain ⟨X, hX⟩ : ∃ X, w1.alloc (.cells #[.int .i64 (lo l), .int .i64 (hi l), .int .i64 0, .int .i64 0] 26) = X := ⟨_, rfl⟩
    have HDX := Lib.hid (HD.out w1 X b1 hX)
    have HX := Lib.hid hX
    clear hX b1 KH HD
    go_upto_region 4 with fail
    rw [HX.out]
    go_wp2_with fail
    go_ret
    exact ⟨_, _, rfl, HDX.out.2, HDX.out.1⟩
end Go.Proofs.Ytafbjadlklcicaa
