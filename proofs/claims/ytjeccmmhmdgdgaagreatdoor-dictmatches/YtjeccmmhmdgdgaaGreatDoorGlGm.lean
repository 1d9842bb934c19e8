/- glob's Map with utf.Low. -/
import Derived.Test.YtjeccmmhmdgdgaaGreatDoorGlW
import Derived.Laws.MakeOwn
import Derived.BigRegion
import Derived.RegionTactic
import Derived.Deep.RegionHeld
namespace Go.Proofs.YtjeccmmhmdgdgaaGreatDoor
open Go.RowKit
set_option maxRecDepth 100000

def lowG (p : GP) : GP := if p.1 then p else (p.1, lowI p.2.1, p.2.2.1, p.2.2.2)
theorem run_parts (w : World) (n : Nat) (hn : n ≤ 200) : (Instr.makeSlice 64 (.int .i64 (n : Int)) (.int .i64 (n : Int))).run Tryz.prog w = .ok (.slice (some ⟨w.heap.size, 0, none⟩) n n) (w.alloc (.cells (madeCells #[.bool false, .int .i32 0, .int .i64 0, .int .i64 0] (n * 4)) 68)) := by
  obtain ⟨i0, hi, hz0, hz1, hz2⟩ := info_parts info_part
  have hr := run_make (P := Tryz.prog) w 64 68 i0 _ Tryz.underlying64 hi hz0 .i64 .i64 (n : Int) (n : Int) (by omega) (by omega) (by rw [hz2]; omega) (by omega)
  simp only [Int.toNat_natCast, hz1] at hr
  exact hr
theorem lowI_bd (x : Int) (h : 0 ≤ x) (h2 : x ≤ 1114111) : 0 ≤ lowI x ∧ lowI x ≤ 1114200 := by
  rcases low_parts x with h | h | h | h | h | h | h | h | h | h | h | h | h | h | h | h | h | h | h | h | h | h | h <;> (unfold lowI; (repeat' split) <;> omega)
theorem gp_split (ps : List GP) (k : Nat) (hkl : k < ps.length) : gpCells (ps.map lowG) = gpCells ((ps.take k).map lowG) ++ ([.bool (lowG ps[k]).1, .int .i32 (lowG ps[k]).2.1, .int .i64 (lowG ps[k]).2.2.1, .int .i64 (lowG ps[k]).2.2.2] ++ gpCells ((ps.drop (k + 1)).map lowG)) := by
  have e : ps.map lowG = (ps.take k).map lowG ++ lowG ps[k] :: (ps.drop (k + 1)).map lowG := by
    conv => lhs; rw [← List.take_append_drop k ps, List.drop_eq_getElem_cons hkl]
    rw [List.map_append, List.map_cons]
  rw [e]
  unfold gpCells
  rw [List.flatMap_append, List.flatMap_cons]
theorem row4 (L pre post : List Value) (a b c d : Value) (m : Nat) (hL : L = pre ++ ([a, b, c, d] ++ post)) (hl : pre.length = m) (f : Nat → Value) (hf : ∀ j, j < m → L[j]? = some (f j)) :
    ∀ j, j < m + 4 → L[j]? = some (if j = m + 3 then d else if j = m + 2 then c else if j = m + 1 then b else if j = m then a else f j) := by
  intro j hj
  by_cases h : j < m
  · rw [hf j h, if_neg (by omega), if_neg (by omega), if_neg (by omega), if_neg (by omega)]
  · rw [hL, List.getElem?_append_right (by omega), hl]
    obtain rfl | rfl | rfl | rfl : j = m ∨ j = m + 1 ∨ j = m + 2 ∨ j = m + 3 := by omega
    · simp
    · simp
    · simp
    · simp
theorem round4 (B N k : Nat) (w wr : World) (f : Nat → Value) (L : List Value) (a b c d v : Value) (o : Obj) (hrow : wr.rowIs B 68 (N * 4) f)
    (HR : Hid (∀ j, j < k * 4 + 4 → L[j]? = some (if j = k * 4 + 3 then d else if j = k * 4 + 2 then c else if j = k * 4 + 1 then b else if j = k * 4 then a else f j)))
    (hcB : wr.cell? ⟨B + 1, 0, none⟩ = some v) (hbel : Below B w wr) (hbs : B + 1 < wr.heap.size) :
    ∃ f', ((((((wr.setCell ⟨B, k * 4, none⟩ a).setCell ⟨B, k * 4 + 1, none⟩ b).setCell ⟨B, k * 4 + 2, none⟩ c).setCell ⟨B, k * 4 + 3, none⟩ d).alloc o).drew).rowIs B 68 (N * 4) f' ∧
      Hid (∀ j, j < (k + 1) * 4 → L[j]? = some (f' j)) ∧
      ((((((wr.setCell ⟨B, k * 4, none⟩ a).setCell ⟨B, k * 4 + 1, none⟩ b).setCell ⟨B, k * 4 + 2, none⟩ c).setCell ⟨B, k * 4 + 3, none⟩ d).alloc o).drew).cell? ⟨B + 1, 0, none⟩ = some v ∧
      Below B w ((((((wr.setCell ⟨B, k * 4, none⟩ a).setCell ⟨B, k * 4 + 1, none⟩ b).setCell ⟨B, k * 4 + 2, none⟩ c).setCell ⟨B, k * 4 + 3, none⟩ d).alloc o).drew) ∧
      B + 1 < ((((((wr.setCell ⟨B, k * 4, none⟩ a).setCell ⟨B, k * 4 + 1, none⟩ b).setCell ⟨B, k * 4 + 2, none⟩ c).setCell ⟨B, k * 4 + 3, none⟩ d).alloc o).drew).heap.size := by
  refine ⟨_, (((((hrow.set (k * 4) a).set (k * 4 + 1) b).set (k * 4 + 2) c).set (k * 4 + 3) d).alloc o).drew, fun j hj => ?_, ?_, ?_, ?_⟩
  · rw [HR.out j (by omega)]
  · show World.cell? (World.alloc _ _) _ = _
    rw [World.cell?_alloc_past _ _ _ (by simp; omega), World.cell?_setCell_far _ _ _ _ (by simp), World.cell?_setCell_far _ _ _ _ (by simp), World.cell?_setCell_far _ _ _ _ (by simp), World.cell?_setCell_far _ _ _ _ (by simp)]
    exact hcB
  · exact (((((hbel.setCell (p := ⟨B, k * 4, none⟩) (Nat.le_refl _) a).setCell (p := ⟨B, k * 4 + 1, none⟩) (Nat.le_refl _) b).setCell (p := ⟨B, k * 4 + 2, none⟩) (Nat.le_refl _) c).setCell (p := ⟨B, k * 4 + 3, none⟩) (Nat.le_refl _) d).alloc (by simp; omega) o).drew
  · show B + 1 < (World.alloc _ _).heap.size
    simp
    omega
set_option maxHeartbeats 1000000 in
theorem gmap_low (ps : List GP) (hps : ps.length ≤ 200) (hsg : ∀ p ∈ ps, 0 ≤ p.2.1 ∧ p.2.1 ≤ 1114111) (R : Nat) (w : World) (hG : GlobW w R ps) :
    Calls Tryz.prog 32 #[.pointer (some ⟨R, 0, none⟩), .func (.func 30) #[] #[]] w fun e w' => ∃ R2, e = .returned (.pointer (some ⟨R2, 0, none⟩)) ∧ GlobW w' R2 (ps.map lowG) ∧ Below w.heap.size w w' := by
  obtain ⟨hR, A, c, hcR, hac, hcm, hcs⟩ := hG
  unfold maxLen at hcm
  obtain ⟨N, hNp⟩ : ∃ N, N = ps.length := ⟨_, rfl⟩
  have HNP := Lib.hid hNp
  have HSG := Lib.hid hsg
  rw [← hNp] at hps hcR hac
  have hmk := run_parts w N (by omega)
  obtain ⟨cs0, hcs0⟩ : ∃ cs, cs = madeCells #[.bool false, .int .i32 0, .int .i64 0, .int .i64 0] (N * 4) := ⟨_, rfl⟩
  have hsz0 : cs0.size = N * 4 := by rw [hcs0, size_madeCells]
  rw [← hcs0] at hmk
  clear hNp hsg hcs0
  go_enter Tryz.func32, Tryz.ntmps32
  go_wp2_with fail
  go_loopw [23] (fun i wr => ∃ (k : Nat) (f : Nat → Value), k ≤ N ∧ i = .int .i64 k ∧ wr.rowIs w.heap.size 68 (N * 4) f ∧ Hid (∀ j, j < k * 4 → (gpCells (ps.map lowG))[j]? = some (f j)) ∧ wr.cell? ⟨w.heap.size + 1, 0, none⟩ = some (.slice (some ⟨w.heap.size, 0, none⟩) N N) ∧ Below w.heap.size w wr ∧ w.heap.size + 1 < wr.heap.size) (fun i _ => N - (intOf i).toNat)
  case atStart =>
    refine ⟨0, fun i => cs0.getD i (.bool false), Nat.zero_le _, rfl, ?_, fun j hj => absurd hj (by omega), by simp, ((Below.refl _ _).alloc (Nat.le_refl _) _).alloc (by simp) _, by simp⟩
    have hr := World.rowIs_alloc w cs0 68 (fun i => cs0.getD i (.bool false)) (fun i hi => by simp [Array.getD, hi])
    rw [hsz0] at hr
    exact hr.alloc _
  case round =>
    obtain ⟨k, f, hk, rfl, hrow, HP, hcB, hbel, hbs⟩ := hrel
    by_cases hlt : k < N
    · have hkl : k < ps.length := by rw [← HNP.out]; exact hlt
      obtain ⟨pb, po, rfl, hpb, hcell⟩ := hcs (by rw [gpCells_len]; omega)
      obtain ⟨q0, q1, q2, q3⟩ := gpCells_at ps k hkl
      have tr : ∀ o u, w.cell? ⟨pb, o, none⟩ = some u → wr.cell? ⟨pb, o, none⟩ = some u := fun o u h => (hbel.cell (p := ⟨pb, o, none⟩) hpb).trans h
      have m0 : wr.cell? ⟨pb, po + k * 4, none⟩ = _ := tr _ _ (hcell _ _ q0)
      have m1 : wr.cell? ⟨pb, po + k * 4 + 1, none⟩ = _ := tr _ _ (hcell _ _ q1)
      have m2 : wr.cell? ⟨pb, po + k * 4 + 2, none⟩ = _ := tr _ _ (hcell _ _ q2)
      have m3 : wr.cell? ⟨pb, po + k * 4 + 3, none⟩ = _ := tr _ _ (hcell _ _ q3)
      have hs1 := HSG.out ps[k] (List.getElem_mem hkl)
      have HX : Hid (gpCells (ps.map lowG) = gpCells ((ps.take k).map lowG) ++ ([.bool (lowG ps[k]).1, .int .i32 (lowG ps[k]).2.1, .int .i64 (lowG ps[k]).2.2.1, .int .i64 (lowG ps[k]).2.2.2] ++ gpCells ((ps.drop (k + 1)).map lowG))) := by
        show _ = _
        exact gp_split ps k hkl
      have HL : Hid ((gpCells ((ps.take k).map lowG)).length = k * 4) := by show _ = _; rw [gpCells_len]; simp; omega
      clear q0 q1 q2 q3 tr hcell
      generalize ps[k] = p at *
      obtain ⟨dt, sg, lo, hi⟩ := p
      simp only at m0 m1 m2 m3 hs1
      have hx0 := hrow.cell (i := k * 4) (by omega)
      have hx1 := hrow.cell (i := k * 4 + 1) (by omega)
      have hx2 := hrow.cell (i := k * 4 + 2) (by omega)
      have hx3 := hrow.cell (i := k * 4 + 3) (by omega)
      have hz0 := hrow.frozen (k * 4)
      have hz1 := hrow.frozen (k * 4 + 1)
      have hz2 := hrow.frozen (k * 4 + 2)
      have hz3 := hrow.frozen (k * 4 + 3)
      have hbs0 : w.heap.size < wr.heap.size := by omega
      cases dt
      · have HX2 : Hid (gpCells (ps.map lowG) = gpCells ((ps.take k).map lowG) ++ ([.bool false, .int .i32 (lowI sg), .int .i64 lo, .int .i64 hi] ++ gpCells ((ps.drop (k + 1)).map lowG))) := HX.out
        have HLow := Lib.hid (fun W => low_any sg (by omega) (by omega) W)
        have hb := lowI_bd sg hs1.1 hs1.2
        generalize lowI sg = l at *
        have hmx : max 0 l = l := by omega
        rw [← hmx] at HX2
        have HR := Lib.hid (row4 _ _ _ _ _ _ _ _ HX2.out HL.out f HP.out)
        have HR4 := Lib.hid (fun o => round4 w.heap.size N k w wr f _ _ _ _ _ _ o hrow HR.out hcB hbel hbs)
        clear HX HX2 HR hmx HP
        go_wp2_with fail
        refine (HLow.out _).mono ?_
        rintro e w3 ⟨rfl, rfl⟩
        go_wp2_with fail
        go_region
        all_goals (go_wp2_with fail)
        all_goals
          obtain ⟨f', h'⟩ := HR4.out (.cells #[.bool false, .int .i32 (max 0 l), .int .i64 lo, .int .i64 hi] 68)
          exact ⟨⟨k + 1, f', by omega, by go_num, h'⟩, by simp [intOf]; omega⟩
      · have HX2 : Hid (gpCells (ps.map lowG) = gpCells ((ps.take k).map lowG) ++ ([.bool true, .int .i32 sg, .int .i64 lo, .int .i64 hi] ++ gpCells ((ps.drop (k + 1)).map lowG))) := HX.out
        have HR := Lib.hid (row4 _ _ _ _ _ _ _ _ HX2.out HL.out f HP.out)
        have HR4 := Lib.hid (fun o => round4 w.heap.size N k w wr f _ _ _ _ _ _ o hrow HR.out hcB hbel hbs)
        clear HX HX2 HR HP
        go_wp2_with fail
        go_region
        all_goals (go_wp2_with fail)
        all_goals
          obtain ⟨f', h'⟩ := HR4.out (.cells #[.bool true, .int .i32 sg, .int .i64 lo, .int .i64 hi] 68)
          exact ⟨⟨k + 1, f', by omega, by go_num, h'⟩, by simp [intOf]; omega⟩
    · have hkN : k = N := by omega
      go_wp2_with fail
      go_ret
      refine ⟨_, rfl, ⟨hbs, some ⟨w.heap.size, 0, none⟩, N, ?_, ?_, by unfold maxLen; omega, fun _ => ⟨w.heap.size, 0, rfl, by omega, fun j u hu => ?_⟩⟩, hbel⟩
      · rw [List.length_map, ← HNP.out]; exact hcB
      · rw [List.length_map, ← HNP.out]; exact Nat.le_refl _
      · have hj : j < N * 4 := by
          have := (List.getElem?_eq_some_iff.1 hu).1
          rw [gpCells_len, List.length_map, ← HNP.out] at this
          exact this
        have h1 := HP.out j (by rw [hkN]; exact hj)
        rw [hu] at h1
        rw [Option.some.inj h1, Nat.zero_add]
        exact hrow.cell hj
end Go.Proofs.YtjeccmmhmdgdgaaGreatDoor
