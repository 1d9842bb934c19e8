/- Orders of spans: by one number, then by another one. -/
import Derived.Test.YtafbjadlklcicaaMaSd
import Derived.Deep.RegionHeld3
import Derived.Shelf.SlicesG.Cmp
namespace Go.Proofs.Ytafbjadlklcicaa
open Go.RowKit Go.Shelf
set_option maxRecDepth 100000

def cfL (a b : Sp → Int) (x y : Sp) : Int := if Lib.compareInt (a x) (a y) = 0 then Lib.compareInt (b x) (b y) else Lib.compareInt (a x) (a y)
theorem cmpI_lt (x y : Int) : Lib.compareInt x y < 0 ↔ x < y := by
  unfold Lib.compareInt
  by_cases h1 : x < y
  · simp [h1]
  · by_cases h2 : y < x <;> simp [h1, h2]
theorem cmpI_eq (x y : Int) : Lib.compareInt x y = 0 ↔ x = y := by
  unfold Lib.compareInt
  by_cases h1 : x < y
  · simp [h1]; omega
  · by_cases h2 : y < x
    · simp [h1, h2]; omega
    · simp [h1, h2]; omega
theorem ltL (a b : Sp → Int) (x y : Sp) : ltOf (cfL a b) x y = decide (a x < a y ∨ (a x = a y ∧ b x < b y)) := by
  unfold ltOf cfL
  by_cases h : Lib.compareInt (a x) (a y) = 0
  · rw [if_pos h]
    have e := (cmpI_eq _ _).1 h
    refine decide_eq_decide.2 ?_
    rw [cmpI_lt]
    omega
  · rw [if_neg h]
    have e : a x ≠ a y := fun k => h ((cmpI_eq _ _).2 k)
    refine decide_eq_decide.2 ?_
    rw [cmpI_lt]
    omega
theorem swoL (a b : Sp → Int) : Go.Sort.SWO (ltOf (cfL a b)) where
  irrefl x := by rw [ltL]; simp
  trans x y z h1 h2 := by rw [ltL] at *; simp only [decide_eq_true_eq] at *; omega
  ntrans x y z h1 h2 := by rw [ltL] at *; simp only [decide_eq_false_iff_not, not_or, not_and] at *; omega
set_option maxHeartbeats 1000000 in
theorem or_int (b : Nat) (x y : Int) (W : World) (h0 : W.cell? ⟨b, 0, none⟩ = some (.int .i64 x)) (h1 : W.cell? ⟨b, 1, none⟩ = some (.int .i64 y)) :
    Calls Try.prog 40 #[.slice (some ⟨b, 0, none⟩) 2 2] W fun e w' => e = .returned (.int .i64 (if x = 0 then y else x)) ∧ w' = W := by
  go_enter Try.func40, Try.ntmps40
  go_wp2_with fail
  go_loopw [5, 8] (fun s5 i wr => ∃ k : Nat, k ≤ 2 ∧ i = .int .i64 k ∧ wr = W ∧ Hid (1 ≤ k → x = 0) ∧ Hid (2 ≤ k → y = 0)) (fun _ i _ => 2 - (intOf i).toNat)
  case atStart => exact ⟨0, Nat.zero_le _, rfl, rfl, fun h => absurd h (by omega), fun h => absurd h (by omega)⟩
  case round =>
    obtain ⟨k, hk, rfl, rfl, HX, HY⟩ := hrel
    rcases (by omega : k = 0 ∨ k = 1 ∨ k = 2) with rfl | rfl | rfl
    · by_cases hx : x = 0
      · subst hx
        go_wp2_with fail
        exact ⟨⟨1, by omega, by go_num, by trivial, (fun _ => by first | exact True.intro | rfl), by first | exact True.intro | exact fun h => absurd h (by omega)⟩, by simp [intOf]⟩
      · have hb : (x != 0) = true := by simpa using hx
        go_wp2_with fail
        go_ret
        exact ⟨rfl, rfl⟩
    · have hx : x = 0 := HX.out (Nat.le_refl 1)
      subst hx
      by_cases hy : y = 0
      · subst hy
        go_wp2_with fail
        exact ⟨⟨2, by omega, by go_num, by trivial, (fun _ => by first | exact True.intro | rfl), (fun _ => by first | exact True.intro | rfl)⟩, by simp [intOf]⟩
      · have hb : (y != 0) = true := by simpa using hy
        go_wp2_with fail
        go_ret
        exact ⟨rfl, rfl⟩
    · have hx : x = 0 := HX.out (by omega)
      have hy : y = 0 := HY.out (by omega)
      subst hx hy
      go_wp2_with fail
      go_ret
      exact ⟨rfl, rfl⟩
set_option maxHeartbeats 2000000 in
theorem ord11_cmp : CmpOf 39 (cfL (·.2.2.1) (·.1)) := by
  refine ⟨enters_of Try.func39 (by kernel_rfl) rfl, fun x y W => ?_⟩
  obtain ⟨x0, x1, x2, x3⟩ := x
  obtain ⟨y0, y1, y2, y3⟩ := y
  have hcon := Lib.hid (fun (a b : Int) W' => AnyG.cmp_Compare_int Try.cmpI a b W')
  change Hid (∀ (a b : Int) W', Calls Try.prog 41 _ _ _) at hcon
  show Calls _ _ #[.agg #[.int .i64 x0, .int .i64 x1, .int .i64 x2, .int .i64 x3], .agg #[.int .i64 y0, .int .i64 y1, .int .i64 y2, .int .i64 y3]] W fun e w' => e = .returned (.int .i64 (if Lib.compareInt x2 y2 = 0 then Lib.compareInt x0 y0 else Lib.compareInt x2 y2)) ∧ _
  obtain ⟨X, hX⟩ : ∃ X, (W.alloc (.cells #[.int .i64 x0, .int .i64 x1, .int .i64 x2, .int .i64 x3] 26)).alloc (.cells #[.int .i64 y0, .int .i64 y1, .int .i64 y2, .int .i64 y3] 26) = X := ⟨_, rfl⟩
  have HS : Hid (∀ W', Below X.heap.size X W' → (W'.cell? ⟨W.heap.size, 0, none⟩ = some (.int .i64 x0) ∧ W'.cell? ⟨W.heap.size, 2, none⟩ = some (.int .i64 x2)) ∧ W'.cell? ⟨W.heap.size + 1, 0, none⟩ = some (.int .i64 y0) ∧ W'.cell? ⟨W.heap.size + 1, 2, none⟩ = some (.int .i64 y2)) := by
    have sX : X.heap.size = W.heap.size + 2 := by rw [← hX]; simp
    have a : ∀ j u, [Value.int .i64 x0, .int .i64 x1, .int .i64 x2, .int .i64 x3][j]? = some u → X.cell? ⟨W.heap.size, j, none⟩ = some u := fun j u hu => by
      have h := new_cells W #[.int .i64 x0, .int .i64 x1, .int .i64 x2, .int .i64 x3] 26 (0, 0) j u hu
      rw [add_addr, Nat.zero_add] at h
      rw [← hX]
      exact Lib.cell?_alloc_some _ h
    have b : ∀ j u, [Value.int .i64 y0, .int .i64 y1, .int .i64 y2, .int .i64 y3][j]? = some u → X.cell? ⟨W.heap.size + 1, j, none⟩ = some u := fun j u hu => by
      have h := new_cells (W.alloc (.cells #[.int .i64 x0, .int .i64 x1, .int .i64 x2, .int .i64 x3] 26)) #[.int .i64 y0, .int .i64 y1, .int .i64 y2, .int .i64 y3] 26 (0, 0) j u hu
      rw [add_addr, Nat.zero_add, hX] at h
      simpa using h
    intro W' hW
    refine ⟨⟨(hW.cell (by rw [sX]; show W.heap.size < _; omega)).trans (a 0 _ rfl), (hW.cell (by rw [sX]; show W.heap.size < _; omega)).trans (a 2 _ rfl)⟩, (hW.cell (by rw [sX]; show W.heap.size + 1 < _; omega)).trans (b 0 _ rfl), (hW.cell (by rw [sX]; show W.heap.size + 1 < _; omega)).trans (b 2 _ rfl)⟩
  have HG : Hid (∀ o, ∃ q os', (X.alloc o).drew = Go.Sort.grow (W.drewN q) os') := fun o => ⟨1, _, by rw [← hX, Go.Sort.alloc_eq_grow, Go.Sort.alloc_eq_grow, Go.Sort.alloc_eq_grow, Go.Sort.grow_grow, Go.Sort.grow_grow, Go.Sort.drew_grow]; rfl⟩
  have HX := Lib.hid hX
  have BR := Lib.hid (Below.refl X.heap.size X)
  clear hX
  obtain ⟨r, hr⟩ : ∃ r, r = Lib.compareInt x2 y2 := ⟨_, rfl⟩
  obtain ⟨r', hr'⟩ : ∃ r, r = Lib.compareInt x0 y0 := ⟨_, rfl⟩
  have K1 : Hid (∀ W', Calls Try.prog 41 #[.int .i64 x2, .int .i64 y2] W' fun e w' => e = .returned (.int .i64 r) ∧ w' = W') := fun W' => by rw [hr]; exact hcon.out x2 y2 W'
  have K2 : Hid (∀ W', Calls Try.prog 41 #[.int .i64 x0, .int .i64 y0] W' fun e w' => e = .returned (.int .i64 r') ∧ w' = W') := fun W' => by rw [hr']; exact hcon.out x0 y0 W'
  rw [← hr, ← hr']
  clear hcon hr hr'
  have KO : Hid (Calls Try.prog 40 #[.slice (some ⟨X.heap.size, 0, none⟩) 2 2] (X.alloc (.cells #[.int .i64 r, .int .i64 r'] 3)).drew fun e w' => e = .returned (.int .i64 (if r = 0 then r' else r)) ∧ w' = (X.alloc (.cells #[.int .i64 r, .int .i64 r'] 3)).drew) := by
    obtain ⟨a, b⟩ := box2 X (.int .i64 r) (.int .i64 r') 3
    exact or_int _ r r' _ a b
  generalize (if r = 0 then r' else r) = R at KO ⊢
  go_enter Try.func39, Try.ntmps39
  go_wp2_with fail
  rw [HX.out]
  go_region_held3 (fun W' => (W'.cell? ⟨W.heap.size, 0, none⟩ = some (.int .i64 x0) ∧ W'.cell? ⟨W.heap.size, 2, none⟩ = some (.int .i64 x2)) ∧ W'.cell? ⟨W.heap.size + 1, 0, none⟩ = some (.int .i64 y0) ∧ W'.cell? ⟨W.heap.size + 1, 2, none⟩ = some (.int .i64 y2))
    (first | exact HS.out _ BR.out.drew | exact HS.out _ (BR.out.drew.alloc (Nat.le_refl _) _))
    (first
      | (go_at_call 41; (first | (with_reducible refine (K1.out _).mono ?_) | (with_reducible refine (K2.out _).mono ?_)); rintro e w3 ⟨rfl, rfl⟩)
      | (go_at_call 40; (with_reducible refine KO.out.mono ?_); rintro e w3 ⟨rfl, rfl⟩))
  go_wp2_with fail
  go_ret
  exact ⟨rfl, HG.out _⟩
/-- By where they begin. -/
def cfF (x y : Sp) : Int := Lib.compareInt x.1 y.1
theorem ltF (x y : Sp) : ltOf cfF x y = decide (x.1 < y.1) := decide_eq_decide.2 (cmpI_lt _ _)
/-- By where they end. -/
def cfT (x y : Sp) : Int := Lib.compareInt x.2.1 y.2.1
theorem from_cmp : CmpOf 43 cfF := by
  refine ⟨enters_of Try.func43 (by kernel_rfl) rfl, fun x y W => ?_⟩
  obtain ⟨x0, x1, x2, x3⟩ := x
  obtain ⟨y0, y1, y2, y3⟩ := y
  have hcon := fun W' => AnyG.cmp_Compare_int Try.cmpI x0 y0 W'
  change ∀ W', Calls Try.prog 41 _ _ _ at hcon
  show Calls _ _ #[.agg #[.int .i64 x0, .int .i64 x1, .int .i64 x2, .int .i64 x3], .agg #[.int .i64 y0, .int .i64 y1, .int .i64 y2, .int .i64 y3]] W fun e w' => e = .returned (.int .i64 (Lib.compareInt x0 y0)) ∧ _
  generalize Lib.compareInt x0 y0 = r at hcon ⊢
  go_enter Try.func43, Try.ntmps43
  go_wp2_with (go_at_call 41; refine (hcon _).mono ?_; rintro e w' ⟨rfl, rfl⟩)
  go_ret
  exact ⟨rfl, 0, _, by rw [Go.Sort.alloc_eq_grow, Go.Sort.alloc_eq_grow, Go.Sort.grow_grow]; rfl⟩
set_option maxHeartbeats 2000000 in
theorem place_cmp : CmpOf 81 (cfL (·.1) (·.2.1)) := by
  refine ⟨enters_of Try.func81 (by kernel_rfl) rfl, fun x y W => ?_⟩
  obtain ⟨x0, x1, x2, x3⟩ := x
  obtain ⟨y0, y1, y2, y3⟩ := y
  have hcon := Lib.hid (fun (a b : Int) W' => AnyG.cmp_Compare_int Try.cmpI a b W')
  change Hid (∀ (a b : Int) W', Calls Try.prog 41 _ _ _) at hcon
  show Calls _ _ #[.agg #[.int .i64 x0, .int .i64 x1, .int .i64 x2, .int .i64 x3], .agg #[.int .i64 y0, .int .i64 y1, .int .i64 y2, .int .i64 y3]] W fun e w' => e = .returned (.int .i64 (if Lib.compareInt x0 y0 = 0 then Lib.compareInt x1 y1 else Lib.compareInt x0 y0)) ∧ _
  obtain ⟨X, hX⟩ : ∃ X, (W.alloc (.cells #[.int .i64 x0, .int .i64 x1, .int .i64 x2, .int .i64 x3] 26)).alloc (.cells #[.int .i64 y0, .int .i64 y1, .int .i64 y2, .int .i64 y3] 26) = X := ⟨_, rfl⟩
  have HS : Hid (∀ W', Below X.heap.size X W' → (W'.cell? ⟨W.heap.size, 0, none⟩ = some (.int .i64 x0) ∧ W'.cell? ⟨W.heap.size, 1, none⟩ = some (.int .i64 x1)) ∧ W'.cell? ⟨W.heap.size + 1, 0, none⟩ = some (.int .i64 y0) ∧ W'.cell? ⟨W.heap.size + 1, 1, none⟩ = some (.int .i64 y1)) := by
    have sX : X.heap.size = W.heap.size + 2 := by rw [← hX]; simp
    have a : ∀ j u, [Value.int .i64 x0, .int .i64 x1, .int .i64 x2, .int .i64 x3][j]? = some u → X.cell? ⟨W.heap.size, j, none⟩ = some u := fun j u hu => by
      have h := new_cells W #[.int .i64 x0, .int .i64 x1, .int .i64 x2, .int .i64 x3] 26 (0, 0) j u hu
      rw [add_addr, Nat.zero_add] at h
      rw [← hX]
      exact Lib.cell?_alloc_some _ h
    have b : ∀ j u, [Value.int .i64 y0, .int .i64 y1, .int .i64 y2, .int .i64 y3][j]? = some u → X.cell? ⟨W.heap.size + 1, j, none⟩ = some u := fun j u hu => by
      have h := new_cells (W.alloc (.cells #[.int .i64 x0, .int .i64 x1, .int .i64 x2, .int .i64 x3] 26)) #[.int .i64 y0, .int .i64 y1, .int .i64 y2, .int .i64 y3] 26 (0, 0) j u hu
      rw [add_addr, Nat.zero_add, hX] at h
      simpa using h
    intro W' hW
    refine ⟨⟨(hW.cell (by rw [sX]; show W.heap.size < _; omega)).trans (a 0 _ rfl), (hW.cell (by rw [sX]; show W.heap.size < _; omega)).trans (a 1 _ rfl)⟩, (hW.cell (by rw [sX]; show W.heap.size + 1 < _; omega)).trans (b 0 _ rfl), (hW.cell (by rw [sX]; show W.heap.size + 1 < _; omega)).trans (b 1 _ rfl)⟩
  have HG : Hid (∀ o, ∃ q os', (X.alloc o).drew = Go.Sort.grow (W.drewN q) os') := fun o => ⟨1, _, by rw [← hX, Go.Sort.alloc_eq_grow, Go.Sort.alloc_eq_grow, Go.Sort.alloc_eq_grow, Go.Sort.grow_grow, Go.Sort.grow_grow, Go.Sort.drew_grow]; rfl⟩
  have HX := Lib.hid hX
  have BR := Lib.hid (Below.refl X.heap.size X)
  clear hX
  obtain ⟨r, hr⟩ : ∃ r, r = Lib.compareInt x0 y0 := ⟨_, rfl⟩
  obtain ⟨r', hr'⟩ : ∃ r, r = Lib.compareInt x1 y1 := ⟨_, rfl⟩
  have K1 : Hid (∀ W', Calls Try.prog 41 #[.int .i64 x0, .int .i64 y0] W' fun e w' => e = .returned (.int .i64 r) ∧ w' = W') := fun W' => by rw [hr]; exact hcon.out x0 y0 W'
  have K2 : Hid (∀ W', Calls Try.prog 41 #[.int .i64 x1, .int .i64 y1] W' fun e w' => e = .returned (.int .i64 r') ∧ w' = W') := fun W' => by rw [hr']; exact hcon.out x1 y1 W'
  rw [← hr, ← hr']
  clear hcon hr hr'
  have KO : Hid (Calls Try.prog 40 #[.slice (some ⟨X.heap.size, 0, none⟩) 2 2] (X.alloc (.cells #[.int .i64 r, .int .i64 r'] 3)).drew fun e w' => e = .returned (.int .i64 (if r = 0 then r' else r)) ∧ w' = (X.alloc (.cells #[.int .i64 r, .int .i64 r'] 3)).drew) := by
    obtain ⟨a, b⟩ := box2 X (.int .i64 r) (.int .i64 r') 3
    exact or_int _ r r' _ a b
  generalize (if r = 0 then r' else r) = R at KO ⊢
  go_enter Try.func81, Try.ntmps81
  go_wp2_with fail
  rw [HX.out]
  go_region_held3 (fun W' => (W'.cell? ⟨W.heap.size, 0, none⟩ = some (.int .i64 x0) ∧ W'.cell? ⟨W.heap.size, 1, none⟩ = some (.int .i64 x1)) ∧ W'.cell? ⟨W.heap.size + 1, 0, none⟩ = some (.int .i64 y0) ∧ W'.cell? ⟨W.heap.size + 1, 1, none⟩ = some (.int .i64 y1))
    (first | exact HS.out _ BR.out.drew | exact HS.out _ (BR.out.drew.alloc (Nat.le_refl _) _))
    (first
      | (go_at_call 41; (first | (with_reducible refine (K1.out _).mono ?_) | (with_reducible refine (K2.out _).mono ?_)); rintro e w3 ⟨rfl, rfl⟩)
      | (go_at_call 40; (with_reducible refine KO.out.mono ?_); rintro e w3 ⟨rfl, rfl⟩))
  go_wp2_with fail
  go_ret
  exact ⟨rfl, HG.out _⟩
end Go.Proofs.Ytafbjadlklcicaa
