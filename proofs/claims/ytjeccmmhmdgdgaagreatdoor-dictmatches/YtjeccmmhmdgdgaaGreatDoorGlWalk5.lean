/- passSign and passAny of package glob. -/
import Derived.Test.YtjeccmmhmdgdgaaGreatDoorGlMatch
import Derived.Test.YtjeccmmhmdgdgaaGreatDoorGlWalk4
import Derived.Deep.OwnRows
namespace Go.Proofs.YtjeccmmhmdgdgaaGreatDoor
open Go.RowKit
set_option maxRecDepth 100000

def bRow (w : World) (g n : Nat) (E : Nat → Bool) : Prop := w.rowIs g 4 n fun i => .bool (E i)
theorem bRow.congr {w : World} {g n : Nat} {E F : Nat → Bool} (h : bRow w g n E) (e : ∀ i, i < n → E i = F i) : bRow w g n F := World.rowIs.congr h fun i hi => by rw [e i hi]
theorem bRow.set {w : World} {g n : Nat} {E : Nat → Bool} (h : bRow w g n E) (i : Nat) (b : Bool) : bRow (w.setCell ⟨g, i, none⟩ (.bool b)) g n (fun j => if j = i then b else E j) := by
  refine World.rowIs.congr (World.rowIs.set h i (.bool b)) fun j _ => ?_
  by_cases e : j = i
  · simp [e]
  · simp [e]
/-- What only block g (and new ones) differs from. -/
theorem gb_refl (w : World) (r : Option Nat) : w.grownBy w r := ⟨rfl, rfl, rfl, Nat.le_refl _, fun _ _ _ => rfl⟩
theorem gb_alloc {a w : World} {r : Option Nat} (h : a.grownBy w r) (o : Obj) : a.grownBy (w.alloc o) r :=
  ⟨h.os, h.tape, h.output, by have := h.size; simp; omega, fun k hk hne => (Below.heap_alloc w o k (Nat.lt_of_lt_of_le hk h.size)).trans (h.block k hk hne)⟩
theorem gb_set {a w : World} {g : Nat} (h : a.grownBy w (some g)) (i : Nat) (u : Value) : a.grownBy (w.setCell ⟨g, i, none⟩ u) (some g) :=
  ⟨h.os, h.tape, h.output, by simpa using h.size, fun k hk hne => (Below.heap_setCell w _ u k (fun e => hne (by rw [e]))).trans (h.block k hk hne)⟩
theorem gb_drew {a w : World} {r : Option Nat} (h : a.grownBy w r) : a.grownBy w.drew r := ⟨h.os, h.tape, h.output, h.size, h.block⟩
theorem gb_cell {a w : World} {g b o : Nat} (h : a.grownBy w (some g)) (hb : b < a.heap.size) (hne : b ≠ g) : w.cell? ⟨b, o, none⟩ = a.cell? ⟨b, o, none⟩ :=
  World.cell?_of_block (h.block b hb (fun e => hne (Option.some.inj e)))

set_option maxHeartbeats 4000000 in
theorem passSign_any (d : Bool) (sg lo hi : Int) (g n c sb so : Nat) (E : Nat → Bool) (ss : List Int) (w : World) (hn : n ≤ 1000000) (hE : bRow w g (n + 1) E) (hsb : sb < w.heap.size) (hne : sb ≠ g)
    (hss : Hid (∀ k, k < n → w.cell? ⟨sb, so + k, none⟩ = some (.int .i32 (ss.getD k 0)))) :
    Calls Tryz.prog 41 #[.agg #[.bool d, .int .i32 sg, .int .i64 lo, .int .i64 hi], .slice (some ⟨g, 0, none⟩) (n + 1) (n + 1), .slice (some ⟨sb, so, none⟩) n c] w fun e w' =>
      e = .returned (.tuple #[]) ∧ bRow w' g (n + 1) (stepS ss sg E) ∧ w.grownBy w' (some g) := by
  have hg : g < w.heap.size := World.rowIs.lt hE
  have HE := Lib.hid hE
  clear hE
  go_enter Tryz.func41, Tryz.ntmps41
  go_wp2_with fail
  obtain ⟨W, hW⟩ : ∃ W, W = w.alloc (.cells #[.bool d, .int .i32 sg, .int .i64 lo, .int .i64 hi] 68) := ⟨_, rfl⟩
  rw [← hW]
  have hEW : bRow W g (n + 1) E := by rw [hW]; exact World.rowIs.alloc HE.out _
  have hgW : w.grownBy W (some g) := by rw [hW]; exact gb_alloc (gb_refl _ _) _
  have hpW : W.cell? ⟨w.heap.size, 1, none⟩ = some (.int .i32 sg) := by rw [hW]; simp
  have hWs : w.heap.size < W.heap.size := by rw [hW]; simp
  clear hW
  go_loopw [6] (fun i wr => ∃ k : Nat, k ≤ n ∧ i = .int .i64 k ∧ bRow wr g (n + 1) (fun j => if k < j then stepS ss sg E j else E j) ∧ w.grownBy wr (some g) ∧ wr.cell? ⟨w.heap.size, 1, none⟩ = some (.int .i32 sg)) (fun i _ => (intOf i).toNat)
  case atStart => exact ⟨n, Nat.le_refl _, rfl, hEW.congr fun j hj => by rw [if_neg (by omega)], hgW, hpW⟩
  case round =>
    obtain ⟨k, hk, rfl, hr, hgr, hp⟩ := hrel
    clear hEW hgW hpW
    cases k with
    | zero =>
      have hc0 := World.rowIs.cell hr (i := 0) (by omega)
      have hf0 := World.rowIs.frozen hr 0
      have hr2 : bRow (wr.setCell ⟨g, 0, none⟩ (.bool false)) g (n + 1) (stepS ss sg E) := (hr.set 0 false).congr fun j hj => by
        by_cases e : j = 0
        · subst e; rfl
        · rw [if_neg e, if_pos (by omega)]
      have hg2 := gb_set hgr 0 (.bool false)
      go_wp2_with fail
      go_end0
      exact ⟨rfl, hr2, hg2⟩
    | succ j =>
      have hcj : wr.cell? ⟨g, j, none⟩ = some (.bool (E j)) := by
        have := World.rowIs.cell hr (i := j) (by omega)
        rw [this]
        show some (Value.bool (if j + 1 < j then _ else _)) = _
        rw [if_neg (by omega)]
      have hcj1 := World.rowIs.cell hr (i := j + 1) (by omega)
      have hf1 := World.rowIs.frozen hr (j + 1)
      have hsj : wr.cell? ⟨sb, so + j, none⟩ = some (.int .i32 (ss.getD j 0)) := (gb_cell hgr hsb hne).trans (hss.out j (by omega))
      have HR : ∀ b, b = (E j && (ss.getD j 0 == sg)) → Hid (bRow (wr.setCell ⟨g, j + 1, none⟩ (.bool b)) g (n + 1) (fun i => if j < i then stepS ss sg E i else E i)) := fun b hb => (hr.set (j + 1) b).congr fun i hi => by
        by_cases e : i = j + 1
        · subst e; rw [if_pos rfl, if_pos (by omega), hb]; rfl
        · rw [if_neg e]
          by_cases e2 : j < i
          · rw [if_pos (by omega), if_pos e2]
          · rw [if_neg (by omega), if_neg e2]
      have HGs := fun b => Lib.hid (gb_set hgr (j + 1) (.bool b))
      have hj1 : (j : Int) + 1 ≤ 1000000 := by omega
      have HPs := fun b => Lib.hid ((World.cell?_of_block (Below.heap_setCell wr ⟨g, j + 1, none⟩ (.bool b) w.heap.size (by show w.heap.size ≠ g; omega)) : (wr.setCell ⟨g, j + 1, none⟩ (.bool b)).cell? ⟨w.heap.size, 1, none⟩ = _).trans hp)
      generalize ss.getD j 0 = x at *
      generalize hEj : E j = a at *
      clear hEj
      cases a
      · have HR2 := HR false (by simp)
        have HG2 := HGs false
        have HP2 := HPs false
        clear HR HGs HPs hgr hr
        go_wp2_with fail
        go_region
        go_wp2_with fail
        exact ⟨⟨j, by omega, rfl, HR2.out, gb_drew HG2.out, HP2.out⟩, by simp [intOf]⟩
      · have HR2 := HR (x == sg) (by simp)
        have HG2 := HGs (x == sg)
        have HP2 := HPs (x == sg)
        clear HR HGs HPs hgr hr
        go_wp2_with fail
        go_region
        go_wp2_with fail
        exact ⟨⟨j, by omega, rfl, HR2.out, gb_drew HG2.out, HP2.out⟩, by simp [intOf]⟩

def Up (lo : Int) (E : Nat → Bool) (k x : Int) : Prop := ∀ j : Nat, E j = true → (j : Int) ≤ k - lo → (j : Int) ≤ x
theorem any_none (lo hi : Int) (E : Nat → Bool) (q : Nat) (x : Int) (h : Up lo E q x) (hx : x < 0) : stepA lo hi E q = false := by
  cases e : stepA lo hi E q with
  | false => rfl
  | true =>
    obtain ⟨j, _, h2, h3, _⟩ := (stepA_iff lo hi E q).1 e
    have := h j h2 (by omega)
    omega
theorem any_at (lo hi : Int) (E : Nat → Bool) (q y : Nat) (h : Up lo E q y) (hy : E y = true) (hyq : (y : Int) ≤ q - lo) (hlo : 0 ≤ lo) : stepA lo hi E q = decide ((q : Int) - y ≤ hi) := by
  rw [Bool.eq_iff_iff, stepA_iff, decide_eq_true_eq]
  constructor
  · rintro ⟨j, _, h2, h3, h4⟩
    have := h j h2 (by omega)
    omega
  · intro h4; exact ⟨y, by omega, hy, by omega, h4⟩
theorem gb_cell2 {wr : World} {g P o : Nat} {v u : Value} (hp : wr.cell? ⟨P, o, none⟩ = some v) (hne : P ≠ g) (i : Nat) : (wr.setCell ⟨g, i, none⟩ u).cell? ⟨P, o, none⟩ = some v :=
  (World.cell?_of_block (Below.heap_setCell wr ⟨g, i, none⟩ u P hne) : (wr.setCell ⟨g, i, none⟩ u).cell? ⟨P, o, none⟩ = _).trans hp
set_option maxHeartbeats 4000000 in
theorem passAny_any (d : Bool) (sg lo hi : Int) (g n : Nat) (E : Nat → Bool) (w : World) (hlo : 0 ≤ lo) (hlo2 : lo ≤ 1000) (hn : n ≤ 1000000) (hE : bRow w g (n + 1) E) :
    Calls Tryz.prog 40 #[.agg #[.bool d, .int .i32 sg, .int .i64 lo, .int .i64 hi], .slice (some ⟨g, 0, none⟩) (n + 1) (n + 1)] w fun e w' =>
      e = .returned (.tuple #[]) ∧ bRow w' g (n + 1) (stepA lo hi E) ∧ w.grownBy w' (some g) := by
  have hg : g < w.heap.size := World.rowIs.lt hE
  have HE := Lib.hid hE
  clear hE
  go_enter Tryz.func40, Tryz.ntmps40
  go_wp2_with fail
  obtain ⟨W, hW⟩ : ∃ W, W = w.alloc (.cells #[.bool d, .int .i32 sg, .int .i64 lo, .int .i64 hi] 68) := ⟨_, rfl⟩
  rw [← hW]
  have hEW : bRow W g (n + 1) E := by rw [hW]; exact World.rowIs.alloc HE.out _
  have hgW : w.grownBy W (some g) := by rw [hW]; exact gb_alloc (gb_refl _ _) _
  have hp2W : W.cell? ⟨w.heap.size, 2, none⟩ = some (.int .i64 lo) := by rw [hW]; simp
  have hp3W : W.cell? ⟨w.heap.size, 3, none⟩ = some (.int .i64 hi) := by rw [hW]; simp
  clear hW
  go_loopw [4, 5] (fun m i wr => ∃ (k x : Int), -1 ≤ k ∧ k ≤ n ∧ i = .int .i64 k ∧ m = .int .i64 x ∧ -1001 ≤ x ∧ x ≤ n ∧ Hid (Up lo E k x) ∧ bRow wr g (n + 1) (fun j => if k < j then stepA lo hi E j else E j) ∧ w.grownBy wr (some g) ∧ wr.cell? ⟨w.heap.size, 2, none⟩ = some (.int .i64 lo) ∧ wr.cell? ⟨w.heap.size, 3, none⟩ = some (.int .i64 hi)) (fun _ i _ => (intOf i + 1).toNat)
  case atStart => exact ⟨n, n, by omega, by omega, by go_num, by go_num, by omega, by omega, fun j _ h => by omega, hEW.congr fun j hj => by rw [if_neg (by omega)], hgW, hp2W, hp3W⟩
  case round =>
    obtain ⟨k, x, hk1, hk2, rfl, rfl, hx1, hx2, HU, hr, hgr, hp2, hp3⟩ := hrel
    clear hEW hgW hp2W hp3W
    by_cases hk0 : k < 0
    · have hr2 : bRow wr g (n + 1) (stepA lo hi E) := hr.congr fun j hj => by rw [if_pos (by omega)]
      go_wp2_with fail
      go_end0
      exact ⟨rfl, hr2, hgr⟩
    · obtain ⟨q, rfl⟩ := Int.eq_ofNat_of_zero_le (by omega : 0 ≤ k)
      clear hk0 hk1
      have HR := Lib.hid hr
      have hcq := World.rowIs.cell hr (i := q) (by omega)
      have hfq := World.rowIs.frozen hr q
      clear hr
      have HR2 : ∀ b, b = stepA lo hi E q → Hid (bRow (wr.setCell ⟨g, q, none⟩ (.bool b)) g (n + 1) (fun j => if (q : Int) - 1 < j then stepA lo hi E j else E j)) := fun b hb => (bRow.set HR.out q b).congr fun i hi => by
        by_cases e : i = q
        · subst e; rw [if_pos rfl, if_pos (by omega), hb]
        · rw [if_neg e]
          by_cases e2 : (q : Int) < i
          · rw [if_pos e2, if_pos (by omega)]
          · rw [if_neg e2, if_neg (by omega)]
      have HG2 := fun b => Lib.hid (gb_set hgr q (.bool b))
      have HP2 := fun b => Lib.hid (gb_cell2 (u := .bool b) hp2 (show w.heap.size ≠ g by omega) q)
      have HP3 := fun b => Lib.hid (gb_cell2 (u := .bool b) hp3 (show w.heap.size ≠ g by omega) q)
      have HGR := Lib.hid hgr
      clear hgr
      have HU2 : ∀ y, Up lo E q y → Hid (Up lo E ((q : Int) - 1) y) := fun y h j h1 h2 => h j h1 (by omega)
      have hy1 : -1001 ≤ min x ((q : Int) - lo) := by omega
      have hy2 : min x ((q : Int) - lo) ≤ (q : Int) - lo := by omega
      have HY : Hid (Up lo E q (min x ((q : Int) - lo))) := fun j h1 h2 => by have := HU.out j h1 h2; omega
      all_goals
        go_wp2_with fail
        go_loop [4] (fun m => ∃ y : Int, m = .int .i64 y ∧ -1001 ≤ y ∧ y ≤ (q : Int) - lo ∧ Hid (Up lo E q y)) (fun m => (intOf m + 1).toNat)
        case atStart => exact ⟨_, rfl, hy1, hy2, HY⟩
        case round =>
          obtain ⟨y, rfl, hz1, hz2, HZ⟩ := hrel
          by_cases hy : y < 0
          · have R := HR2 false (any_none lo hi E q y HZ.out hy).symm
            have G := HG2 false
            have P2 := HP2 false
            have P3 := HP3 false
            have U := HU2 y HZ.out
            clear HR2 HG2 HP2 HP3 HU2 HY
            go_wp2_with fail
            exact ⟨⟨(q : Int) - 1, y, by omega, by omega, rfl, rfl, hz1, by omega, U, R.out, G.out, P2.out, P3.out⟩, by simp [intOf]⟩
          · obtain ⟨z, rfl⟩ := Int.eq_ofNat_of_zero_le (by omega : 0 ≤ y)
            have hcz := World.rowIs.cell HR.out (i := z) (by omega)
            have hcz2 : wr.cell? ⟨g, z, none⟩ = some (.bool (E z)) := by
              rw [hcz]
              show some (Value.bool (if (q : Int) < z then _ else _)) = _
              rw [if_neg (by omega)]
            clear hcz hy
            have hzn : z < n + 1 := by omega
            have hzn' : (z : Int) < (n : Int) + 1 := by omega
            cases hEz : E z
            · rw [hEz] at hcz2
              have U : Hid (Up lo E q ((z : Int) - 1)) := fun j h1 h2 => by
                have h3 := HZ.out j h1 h2
                by_cases e : j = z
                · subst e; rw [hEz] at h1; cases h1
                · omega
              clear hEz HR2 HG2 HP2 HP3 HU2 HY
              go_wp2_with fail
              go_round
              case rel => exact ⟨(z : Int) - 1, rfl, by omega, by omega, U⟩
              case measure => simp [intOf]
            · rw [hEz] at hcz2
              have R := HR2 (decide ((q : Int) - z ≤ hi)) (any_at lo hi E q z HZ.out hEz hz2 hlo).symm
              have G := HG2 (decide ((q : Int) - z ≤ hi))
              have P2 := HP2 (decide ((q : Int) - z ≤ hi))
              have P3 := HP3 (decide ((q : Int) - z ≤ hi))
              have U := HU2 z HZ.out
              clear hEz HR2 HG2 HP2 HP3 HU2 HY
              go_wp2_with fail
              exact ⟨⟨(q : Int) - 1, z, by omega, by omega, rfl, rfl, by omega, by omega, U, R.out, G.out, P2.out, P3.out⟩, by simp [intOf]⟩
end Go.Proofs.YtjeccmmhmdgdgaaGreatDoor
