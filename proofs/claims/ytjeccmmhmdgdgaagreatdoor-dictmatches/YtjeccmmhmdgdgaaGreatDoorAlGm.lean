/- glob's Map with a function value, bound or not, that may make memory. -/
import Derived.Test.YtjeccmmhmdgdgaaGreatDoorGlGm
import Derived.Test.YtjeccmmhmdgdgaaGreatDoorAlMap
namespace Go.Proofs.YtjeccmmhmdgdgaaGreatDoor
open Go.RowKit
set_option maxRecDepth 100000

def mapG (g : Int → Int) (p : GP) : GP := if p.1 then p else (p.1, max 0 (g p.2.1), p.2.2.1, p.2.2.2)
theorem gm_split (g : Int → Int) (ps : List GP) (k : Nat) (hkl : k < ps.length) : gpCells (ps.map (mapG g)) = gpCells ((ps.take k).map (mapG g)) ++ ([.bool (mapG g ps[k]).1, .int .i32 (mapG g ps[k]).2.1, .int .i64 (mapG g ps[k]).2.2.1, .int .i64 (mapG g ps[k]).2.2.2] ++ gpCells ((ps.drop (k + 1)).map (mapG g))) := by
  have e : ps.map (mapG g) = (ps.take k).map (mapG g) ++ mapG g ps[k] :: (ps.drop (k + 1)).map (mapG g) := by
    conv => lhs; rw [← List.take_append_drop k ps, List.drop_eq_getElem_cons hkl]
    rw [List.map_append, List.map_cons]
  rw [e]
  unfold gpCells
  rw [List.flatMap_append, List.flatMap_cons]
theorem cell_setR (w : World) (R o o' : Nat) (u : Value) (h : o' ≠ o) : (w.setCell ⟨R, o, none⟩ u).cell? ⟨R, o', none⟩ = w.cell? ⟨R, o', none⟩ := World.cell?_setCell_other _ _ _ _ (by intro e; injection e with _ e; exact h e.symm)
theorem rowIs_below {w w' : World} {b n B : Nat} {t : TypeId} {f : Nat → Value} (h : w.rowIs b t n f) (hb : Below B w w') (hB : b < B) : w'.rowIs b t n f := h.of_block (hb.block b hB)
/-- A pattern all of which was made since a world. -/
def GlobUp (w w' : World) (R : Nat) (ps : List GP) : Prop := ∀ W : World, w'.heap.size ≤ W.heap.size → (∀ k, w.heap.size ≤ k → k < w'.heap.size → W.heap[k]? = w'.heap[k]?) → GlobW W R ps
theorem GlobUp.now {w w' : World} {R : Nat} {ps : List GP} (h : GlobUp w w' R ps) : GlobW w' R ps := h w' (Nat.le_refl _) fun _ _ _ => rfl
/-- What the round leaves where a call stood between. -/
theorem round4c (B N k : Nat) (w X : World) (f : Nat → Value) (L : List Value) (a b c d v : Value) (hrow : X.rowIs B 68 (N * 4) f)
    (HR : Hid (∀ j, j < k * 4 + 4 → L[j]? = some (if j = k * 4 + 3 then d else if j = k * 4 + 2 then c else if j = k * 4 + 1 then b else if j = k * 4 then a else f j)))
    (hcB : X.cell? ⟨B + 1, 0, none⟩ = some v) (hbel : Below B w X) (hbs : B + 1 < X.heap.size) :
    ∃ f', (((((X.setCell ⟨B, k * 4, none⟩ a).setCell ⟨B, k * 4 + 1, none⟩ b).setCell ⟨B, k * 4 + 2, none⟩ c).setCell ⟨B, k * 4 + 3, none⟩ d).drew).rowIs B 68 (N * 4) f' ∧
      Hid (∀ j, j < (k + 1) * 4 → L[j]? = some (f' j)) ∧
      (((((X.setCell ⟨B, k * 4, none⟩ a).setCell ⟨B, k * 4 + 1, none⟩ b).setCell ⟨B, k * 4 + 2, none⟩ c).setCell ⟨B, k * 4 + 3, none⟩ d).drew).cell? ⟨B + 1, 0, none⟩ = some v ∧
      Below B w (((((X.setCell ⟨B, k * 4, none⟩ a).setCell ⟨B, k * 4 + 1, none⟩ b).setCell ⟨B, k * 4 + 2, none⟩ c).setCell ⟨B, k * 4 + 3, none⟩ d).drew) ∧
      B + 1 < (((((X.setCell ⟨B, k * 4, none⟩ a).setCell ⟨B, k * 4 + 1, none⟩ b).setCell ⟨B, k * 4 + 2, none⟩ c).setCell ⟨B, k * 4 + 3, none⟩ d).drew).heap.size := by
  refine ⟨_, ((((hrow.set (k * 4) a).set (k * 4 + 1) b).set (k * 4 + 2) c).set (k * 4 + 3) d).drew, fun j hj => ?_, ?_, ?_, ?_⟩
  · rw [HR.out j (by omega)]
  · show World.cell? (World.setCell _ _ _) _ = _
    rw [World.cell?_setCell_far _ _ _ _ (by simp), World.cell?_setCell_far _ _ _ _ (by simp), World.cell?_setCell_far _ _ _ _ (by simp), World.cell?_setCell_far _ _ _ _ (by simp)]
    exact hcB
  · exact ((((hbel.setCell (p := ⟨B, k * 4, none⟩) (Nat.le_refl _) a).setCell (p := ⟨B, k * 4 + 1, none⟩) (Nat.le_refl _) b).setCell (p := ⟨B, k * 4 + 2, none⟩) (Nat.le_refl _) c).setCell (p := ⟨B, k * 4 + 3, none⟩) (Nat.le_refl _) d).drew
  · show B + 1 < (World.setCell _ _ _).heap.size
    simp
    omega
set_option maxHeartbeats 4000000 in
theorem gmap_bound (F : Nat) (rv : Value) (g : Int → Int) (HF : Hid (∀ (sg : Int) W, 0 ≤ sg → sg ≤ 1114111 → Calls Tryz.prog F #[rv, .int .i32 sg] W fun e w' => e = .returned (.int .i32 (g sg)) ∧ Below W.heap.size W w'))
    (HC : Hid (∀ (x : Int) W, (callFunc F #[rv, .int .i32 x]).run Tryz.prog W = .ok (.enter F #[rv, .int .i32 x]) W)) (ps : List GP) (hps : ps.length ≤ 200) (hsg : ∀ p ∈ ps, 0 ≤ p.2.1 ∧ p.2.1 ≤ 1114111) (R : Nat) (w : World) (hG : GlobW w R ps) :
    Calls Tryz.prog 32 #[.pointer (some ⟨R, 0, none⟩), .func (.func F) #[rv] #[]] w fun e w' => ∃ R2, e = .returned (.pointer (some ⟨R2, 0, none⟩)) ∧ GlobUp w w' R2 (ps.map (mapG g)) ∧ Below w.heap.size w w' := by
  obtain ⟨hR, A, c, hcR, hac, hcm, hcs⟩ := hG
  unfold maxLen at hcm
  obtain ⟨N, hNp⟩ : ∃ N, N = ps.length := ⟨_, rfl⟩
  have HNP := Lib.hid hNp
  have HSG := Lib.hid hsg
  rw [← hNp] at hps hcR hac
  have hmk := run_parts w N (by omega)
  obtain ⟨cs0, hcs0⟩ : ∃ cs, cs = madeCells #[.bool false, .int .i32 0, .int .i64 0, .int .i64 0] (N * 4) := ⟨_, rfl⟩
  have hsz0 : cs0.size = N * 4 := by rw [hcs0, size_madeCells]
  rw [← hcs0] at hmk
  clear hNp hsg hcs0
  go_enter Tryz.func32, Tryz.ntmps32
  go_wp2_with fail
  go_loopw [23] (fun i wr => ∃ (k : Nat) (f : Nat → Value), k ≤ N ∧ i = .int .i64 k ∧ wr.rowIs w.heap.size 68 (N * 4) f ∧ Hid (∀ j, j < k * 4 → (gpCells (ps.map (mapG g)))[j]? = some (f j)) ∧ wr.cell? ⟨w.heap.size + 1, 0, none⟩ = some (.slice (some ⟨w.heap.size, 0, none⟩) N N) ∧ Below w.heap.size w wr ∧ w.heap.size + 1 < wr.heap.size) (fun i _ => N - (intOf i).toNat)
  case atStart =>
    refine ⟨0, fun i => cs0.getD i (.bool false), Nat.zero_le _, rfl, ?_, fun j hj => absurd hj (by omega), by simp, ((Below.refl _ _).alloc (Nat.le_refl _) _).alloc (by simp) _, by simp⟩
    have hr := World.rowIs_alloc w cs0 68 (fun i => cs0.getD i (.bool false)) (fun i hi => by simp [Array.getD, hi])
    rw [hsz0] at hr
    exact hr.alloc _
  case round =>
    obtain ⟨k, f, hk, rfl, hrow, HP, hcB, hbel, hbs⟩ := hrel
    by_cases hlt : k < N
    · have hkl : k < ps.length := by rw [← HNP.out]; exact hlt
      obtain ⟨pb, po, rfl, hpb, hcell⟩ := hcs (by rw [gpCells_len]; omega)
      obtain ⟨q0, q1, q2, q3⟩ := gpCells_at ps k hkl
      have tr : ∀ o u, w.cell? ⟨pb, o, none⟩ = some u → wr.cell? ⟨pb, o, none⟩ = some u := fun o u h => (hbel.cell (p := ⟨pb, o, none⟩) hpb).trans h
      have m0 : wr.cell? ⟨pb, po + k * 4, none⟩ = _ := tr _ _ (hcell _ _ q0)
      have m1 : wr.cell? ⟨pb, po + k * 4 + 1, none⟩ = _ := tr _ _ (hcell _ _ q1)
      have m2 : wr.cell? ⟨pb, po + k * 4 + 2, none⟩ = _ := tr _ _ (hcell _ _ q2)
      have m3 : wr.cell? ⟨pb, po + k * 4 + 3, none⟩ = _ := tr _ _ (hcell _ _ q3)
      have hs1 := HSG.out ps[k] (List.getElem_mem hkl)
      have HX : Hid (gpCells (ps.map (mapG g)) = gpCells ((ps.take k).map (mapG g)) ++ ([.bool (mapG g ps[k]).1, .int .i32 (mapG g ps[k]).2.1, .int .i64 (mapG g ps[k]).2.2.1, .int .i64 (mapG g ps[k]).2.2.2] ++ gpCells ((ps.drop (k + 1)).map (mapG g)))) := by
        show _ = _
        exact gm_split g ps k hkl
      have HL : Hid ((gpCells ((ps.take k).map (mapG g))).length = k * 4) := by show _ = _; rw [gpCells_len]; simp; omega
      clear q0 q1 q2 q3 tr hcell
      generalize ps[k] = p at *
      obtain ⟨dt, sg, lo, hi⟩ := p
      simp only at m0 m1 m2 m3 hs1
      have hbs0 : w.heap.size < wr.heap.size := by omega
      cases dt
      · have HX2 : Hid (gpCells (ps.map (mapG g)) = gpCells ((ps.take k).map (mapG g)) ++ ([.bool false, .int .i32 (max 0 (g sg)), .int .i64 lo, .int .i64 hi] ++ gpCells ((ps.drop (k + 1)).map (mapG g)))) := HX.out
        have HFS := Lib.hid (fun W => HF.out sg W hs1.1 hs1.2)
        obtain ⟨l, hl⟩ : ∃ l, l = g sg := ⟨_, rfl⟩
        rw [← hl] at HX2 HFS
        have HR := Lib.hid (row4 _ _ _ _ _ _ _ _ HX2.out HL.out f HP.out)
        have HRW := Lib.hid hrow
        have HCB := Lib.hid hcB
        have HBE := Lib.hid hbel
        clear HX HX2 HP hl hrow hcB
        go_wp2_with fail
        rw [HC.out, Oper.upon_enter]
        refine (HFS.out _).mono ?_
        rintro e w3 ⟨rfl, b3⟩
        have hz3 : wr.heap.size < w3.heap.size := by have := b3.size; simp at this; omega
        have ba : Below wr.heap.size wr w3 := ((Below.refl _ _).alloc (Nat.le_refl _) _).trans (b3.mono (by simp))
        have pc : ∀ i v, (#[Value.bool false, .int .i32 sg, .int .i64 lo, .int .i64 hi] : Array Value).toList[i]? = some v → w3.cell? ⟨wr.heap.size, i, none⟩ = some v := fun i v h => by
          rw [b3.cell (p := ⟨wr.heap.size, i, none⟩) (by simp)]
          have z := new_cells wr #[.bool false, .int .i32 sg, .int .i64 lo, .int .i64 hi] 68 (0, 0) i _ h
          rwa [add_addr, Nat.zero_add] at z
        have p0 := pc 0 _ rfl
        have p1 := pc 1 _ rfl
        have p2 := pc 2 _ rfl
        have p3 := pc 3 _ rfl
        have pf : w3.frozen? ⟨wr.heap.size, 1, none⟩ = false := by
          rw [b3.frozen (p := ⟨wr.heap.size, 1, none⟩) (by simp)]
          exact World.frozen?_alloc_new wr _ _ 1
        clear pc
        go_wp2_with fail
        obtain ⟨X, hX⟩ : ∃ X, X = w3.setCell ⟨wr.heap.size, 1, none⟩ (.int .i32 (max 0 l)) := ⟨_, rfl⟩
        rw [← hX]
        have rX : X.rowIs w.heap.size 68 (N * 4) f := by rw [hX]; exact (rowIs_below HRW.out ba hbs0).setOther (a := ⟨wr.heap.size, 1, none⟩) (by show w.heap.size ≠ wr.heap.size; omega) _
        have cX : X.cell? ⟨w.heap.size + 1, 0, none⟩ = some (.slice (some ⟨w.heap.size, 0, none⟩) N N) := by
          rw [hX, World.cell?_setCell_far _ _ _ _ (by simp; omega)]
          exact (ba.cell (p := ⟨w.heap.size + 1, 0, none⟩) hbs).trans HCB.out
        have bX : Below w.heap.size w X := by rw [hX]; exact (HBE.out.trans (ba.mono HBE.out.size)).setCell (p := ⟨wr.heap.size, 1, none⟩) (Nat.le_of_lt hbs0) _
        have sX : w.heap.size + 1 < X.heap.size := by rw [hX]; simp; omega
        have x0 : X.cell? ⟨wr.heap.size, 0, none⟩ = some (.bool false) := by rw [hX, cell_setR _ _ 1 0 _ (by omega)]; exact p0
        have x1 : X.cell? ⟨wr.heap.size, 1, none⟩ = some (.int .i32 (max 0 l)) := by rw [hX]; exact World.cell?_setCell_same _ _ _ (by rw [p1])
        have x2 : X.cell? ⟨wr.heap.size, 2, none⟩ = some (.int .i64 lo) := by rw [hX, cell_setR _ _ 1 2 _ (by omega)]; exact p2
        have x3 : X.cell? ⟨wr.heap.size, 3, none⟩ = some (.int .i64 hi) := by rw [hX, cell_setR _ _ 1 3 _ (by omega)]; exact p3
        have hx0 := rX.cell (i := k * 4) (by omega)
        have hx1 := rX.cell (i := k * 4 + 1) (by omega)
        have hx2 := rX.cell (i := k * 4 + 2) (by omega)
        have hx3 := rX.cell (i := k * 4 + 3) (by omega)
        have hz0 := rX.frozen (k * 4)
        have hz1 := rX.frozen (k * 4 + 1)
        have hz2 := rX.frozen (k * 4 + 2)
        have hz3 := rX.frozen (k * 4 + 3)
        have hbX : w.heap.size < X.heap.size := by omega
        have HR4 := Lib.hid (round4c w.heap.size N k w X f _ _ _ _ _ _ rX HR.out cX bX sX)
        clear hX p0 p1 p2 p3 pf HR b3 ba hbel rX bX m0 m1 m2 m3
        go_region
        all_goals (go_wp2_with fail)
        all_goals
          obtain ⟨f', h'⟩ := HR4.out
          exact ⟨⟨k + 1, f', by omega, by go_num, h'⟩, by simp [intOf]; omega⟩
      · have HX2 : Hid (gpCells (ps.map (mapG g)) = gpCells ((ps.take k).map (mapG g)) ++ ([.bool true, .int .i32 sg, .int .i64 lo, .int .i64 hi] ++ gpCells ((ps.drop (k + 1)).map (mapG g)))) := HX.out
        have hx0 := hrow.cell (i := k * 4) (by omega)
        have hx1 := hrow.cell (i := k * 4 + 1) (by omega)
        have hx2 := hrow.cell (i := k * 4 + 2) (by omega)
        have hx3 := hrow.cell (i := k * 4 + 3) (by omega)
        have hz0 := hrow.frozen (k * 4)
        have hz1 := hrow.frozen (k * 4 + 1)
        have hz2 := hrow.frozen (k * 4 + 2)
        have hz3 := hrow.frozen (k * 4 + 3)
        have HR := Lib.hid (row4 _ _ _ _ _ _ _ _ HX2.out HL.out f HP.out)
        have HR4 := Lib.hid (fun o => round4 w.heap.size N k w wr f _ _ _ _ _ _ o hrow HR.out hcB hbel hbs)
        clear HX HX2 HR HP
        go_wp2_with fail
        go_region
        all_goals (go_wp2_with fail)
        all_goals
          obtain ⟨f', h'⟩ := HR4.out (.cells #[.bool true, .int .i32 sg, .int .i64 lo, .int .i64 hi] 68)
          exact ⟨⟨k + 1, f', by omega, by go_num, h'⟩, by simp [intOf]; omega⟩
    · have hkN : k = N := by omega
      go_wp2_with fail
      go_ret
      refine ⟨_, rfl, fun W hz hk2 => ⟨by omega, some ⟨w.heap.size, 0, none⟩, N, ?_, ?_, by unfold maxLen; omega, fun _ => ⟨w.heap.size, 0, rfl, by omega, fun j u hu => ?_⟩⟩, hbel⟩
      · rw [List.length_map, ← HNP.out]; exact (World.cell?_of_block (w := wr) (a := ⟨w.heap.size + 1, 0, none⟩) (hk2 (w.heap.size + 1) (by omega) hbs)).trans hcB
      · rw [List.length_map, ← HNP.out]; exact Nat.le_refl _
      · have hj : j < N * 4 := by
          have := (List.getElem?_eq_some_iff.1 hu).1
          rw [gpCells_len, List.length_map, ← HNP.out] at this
          exact this
        have h1 := HP.out j (by rw [hkN]; exact hj)
        rw [hu] at h1
        rw [Option.some.inj h1, Nat.zero_add]
        exact (World.cell?_of_block (w := wr) (a := ⟨w.heap.size, j, none⟩) (hk2 w.heap.size (Nat.le_refl _) (by omega))).trans (hrow.cell hj)
set_option maxHeartbeats 4000000 in
theorem gmap_any (F : Nat) (g : Int → Int) (HF : Hid (∀ (sg : Int) W, 0 ≤ sg → sg ≤ 1114111 → Calls Tryz.prog F #[.int .i32 sg] W fun e w' => e = .returned (.int .i32 (g sg)) ∧ Below W.heap.size W w'))
    (HC : Hid (∀ (x : Int) W, (callFunc F #[.int .i32 x]).run Tryz.prog W = .ok (.enter F #[.int .i32 x]) W)) (ps : List GP) (hps : ps.length ≤ 200) (hsg : ∀ p ∈ ps, 0 ≤ p.2.1 ∧ p.2.1 ≤ 1114111) (R : Nat) (w : World) (hG : GlobW w R ps) :
    Calls Tryz.prog 32 #[.pointer (some ⟨R, 0, none⟩), .func (.func F) #[] #[]] w fun e w' => ∃ R2, e = .returned (.pointer (some ⟨R2, 0, none⟩)) ∧ GlobUp w w' R2 (ps.map (mapG g)) ∧ Below w.heap.size w w' := by
  obtain ⟨hR, A, c, hcR, hac, hcm, hcs⟩ := hG
  unfold maxLen at hcm
  obtain ⟨N, hNp⟩ : ∃ N, N = ps.length := ⟨_, rfl⟩
  have HNP := Lib.hid hNp
  have HSG := Lib.hid hsg
  rw [← hNp] at hps hcR hac
  have hmk := run_parts w N (by omega)
  obtain ⟨cs0, hcs0⟩ : ∃ cs, cs = madeCells #[.bool false, .int .i32 0, .int .i64 0, .int .i64 0] (N * 4) := ⟨_, rfl⟩
  have hsz0 : cs0.size = N * 4 := by rw [hcs0, size_madeCells]
  rw [← hcs0] at hmk
  clear hNp hsg hcs0
  go_enter Tryz.func32, Tryz.ntmps32
  go_wp2_with fail
  go_loopw [23] (fun i wr => ∃ (k : Nat) (f : Nat → Value), k ≤ N ∧ i = .int .i64 k ∧ wr.rowIs w.heap.size 68 (N * 4) f ∧ Hid (∀ j, j < k * 4 → (gpCells (ps.map (mapG g)))[j]? = some (f j)) ∧ wr.cell? ⟨w.heap.size + 1, 0, none⟩ = some (.slice (some ⟨w.heap.size, 0, none⟩) N N) ∧ Below w.heap.size w wr ∧ w.heap.size + 1 < wr.heap.size) (fun i _ => N - (intOf i).toNat)
  case atStart =>
    refine ⟨0, fun i => cs0.getD i (.bool false), Nat.zero_le _, rfl, ?_, fun j hj => absurd hj (by omega), by simp, ((Below.refl _ _).alloc (Nat.le_refl _) _).alloc (by simp) _, by simp⟩
    have hr := World.rowIs_alloc w cs0 68 (fun i => cs0.getD i (.bool false)) (fun i hi => by simp [Array.getD, hi])
    rw [hsz0] at hr
    exact hr.alloc _
  case round =>
    obtain ⟨k, f, hk, rfl, hrow, HP, hcB, hbel, hbs⟩ := hrel
    by_cases hlt : k < N
    · have hkl : k < ps.length := by rw [← HNP.out]; exact hlt
      obtain ⟨pb, po, rfl, hpb, hcell⟩ := hcs (by rw [gpCells_len]; omega)
      obtain ⟨q0, q1, q2, q3⟩ := gpCells_at ps k hkl
      have tr : ∀ o u, w.cell? ⟨pb, o, none⟩ = some u → wr.cell? ⟨pb, o, none⟩ = some u := fun o u h => (hbel.cell (p := ⟨pb, o, none⟩) hpb).trans h
      have m0 : wr.cell? ⟨pb, po + k * 4, none⟩ = _ := tr _ _ (hcell _ _ q0)
      have m1 : wr.cell? ⟨pb, po + k * 4 + 1, none⟩ = _ := tr _ _ (hcell _ _ q1)
      have m2 : wr.cell? ⟨pb, po + k * 4 + 2, none⟩ = _ := tr _ _ (hcell _ _ q2)
      have m3 : wr.cell? ⟨pb, po + k * 4 + 3, none⟩ = _ := tr _ _ (hcell _ _ q3)
      have hs1 := HSG.out ps[k] (List.getElem_mem hkl)
      have HX : Hid (gpCells (ps.map (mapG g)) = gpCells ((ps.take k).map (mapG g)) ++ ([.bool (mapG g ps[k]).1, .int .i32 (mapG g ps[k]).2.1, .int .i64 (mapG g ps[k]).2.2.1, .int .i64 (mapG g ps[k]).2.2.2] ++ gpCells ((ps.drop (k + 1)).map (mapG g)))) := by
        show _ = _
        exact gm_split g ps k hkl
      have HL : Hid ((gpCells ((ps.take k).map (mapG g))).length = k * 4) := by show _ = _; rw [gpCells_len]; simp; omega
      clear q0 q1 q2 q3 tr hcell
      generalize ps[k] = p at *
      obtain ⟨dt, sg, lo, hi⟩ := p
      simp only at m0 m1 m2 m3 hs1
      have hbs0 : w.heap.size < wr.heap.size := by omega
      cases dt
      · have HX2 : Hid (gpCells (ps.map (mapG g)) = gpCells ((ps.take k).map (mapG g)) ++ ([.bool false, .int .i32 (max 0 (g sg)), .int .i64 lo, .int .i64 hi] ++ gpCells ((ps.drop (k + 1)).map (mapG g)))) := HX.out
        have HFS := Lib.hid (fun W => HF.out sg W hs1.1 hs1.2)
        obtain ⟨l, hl⟩ : ∃ l, l = g sg := ⟨_, rfl⟩
        rw [← hl] at HX2 HFS
        have HR := Lib.hid (row4 _ _ _ _ _ _ _ _ HX2.out HL.out f HP.out)
        have HRW := Lib.hid hrow
        have HCB := Lib.hid hcB
        have HBE := Lib.hid hbel
        clear HX HX2 HP hl hrow hcB
        go_wp2_with fail
        rw [HC.out, Oper.upon_enter]
        refine (HFS.out _).mono ?_
        rintro e w3 ⟨rfl, b3⟩
        have hz3 : wr.heap.size < w3.heap.size := by have := b3.size; simp at this; omega
        have ba : Below wr.heap.size wr w3 := ((Below.refl _ _).alloc (Nat.le_refl _) _).trans (b3.mono (by simp))
        have pc : ∀ i v, (#[Value.bool false, .int .i32 sg, .int .i64 lo, .int .i64 hi] : Array Value).toList[i]? = some v → w3.cell? ⟨wr.heap.size, i, none⟩ = some v := fun i v h => by
          rw [b3.cell (p := ⟨wr.heap.size, i, none⟩) (by simp)]
          have z := new_cells wr #[.bool false, .int .i32 sg, .int .i64 lo, .int .i64 hi] 68 (0, 0) i _ h
          rwa [add_addr, Nat.zero_add] at z
        have p0 := pc 0 _ rfl
        have p1 := pc 1 _ rfl
        have p2 := pc 2 _ rfl
        have p3 := pc 3 _ rfl
        have pf : w3.frozen? ⟨wr.heap.size, 1, none⟩ = false := by
          rw [b3.frozen (p := ⟨wr.heap.size, 1, none⟩) (by simp)]
          exact World.frozen?_alloc_new wr _ _ 1
        clear pc
        go_wp2_with fail
        obtain ⟨X, hX⟩ : ∃ X, X = w3.setCell ⟨wr.heap.size, 1, none⟩ (.int .i32 (max 0 l)) := ⟨_, rfl⟩
        rw [← hX]
        have rX : X.rowIs w.heap.size 68 (N * 4) f := by rw [hX]; exact (rowIs_below HRW.out ba hbs0).setOther (a := ⟨wr.heap.size, 1, none⟩) (by show w.heap.size ≠ wr.heap.size; omega) _
        have cX : X.cell? ⟨w.heap.size + 1, 0, none⟩ = some (.slice (some ⟨w.heap.size, 0, none⟩) N N) := by
          rw [hX, World.cell?_setCell_far _ _ _ _ (by simp; omega)]
          exact (ba.cell (p := ⟨w.heap.size + 1, 0, none⟩) hbs).trans HCB.out
        have bX : Below w.heap.size w X := by rw [hX]; exact (HBE.out.trans (ba.mono HBE.out.size)).setCell (p := ⟨wr.heap.size, 1, none⟩) (Nat.le_of_lt hbs0) _
        have sX : w.heap.size + 1 < X.heap.size := by rw [hX]; simp; omega
        have x0 : X.cell? ⟨wr.heap.size, 0, none⟩ = some (.bool false) := by rw [hX, cell_setR _ _ 1 0 _ (by omega)]; exact p0
        have x1 : X.cell? ⟨wr.heap.size, 1, none⟩ = some (.int .i32 (max 0 l)) := by rw [hX]; exact World.cell?_setCell_same _ _ _ (by rw [p1])
        have x2 : X.cell? ⟨wr.heap.size, 2, none⟩ = some (.int .i64 lo) := by rw [hX, cell_setR _ _ 1 2 _ (by omega)]; exact p2
        have x3 : X.cell? ⟨wr.heap.size, 3, none⟩ = some (.int .i64 hi) := by rw [hX, cell_setR _ _ 1 3 _ (by omega)]; exact p3
        have hx0 := rX.cell (i := k * 4) (by omega)
        have hx1 := rX.cell (i := k * 4 + 1) (by omega)
        have hx2 := rX.cell (i := k * 4 + 2) (by omega)
        have hx3 := rX.cell (i := k * 4 + 3) (by omega)
        have hz0 := rX.frozen (k * 4)
        have hz1 := rX.frozen (k * 4 + 1)
        have hz2 := rX.frozen (k * 4 + 2)
        have hz3 := rX.frozen (k * 4 + 3)
        have hbX : w.heap.size < X.heap.size := by omega
        have HR4 := Lib.hid (round4c w.heap.size N k w X f _ _ _ _ _ _ rX HR.out cX bX sX)
        clear hX p0 p1 p2 p3 pf HR b3 ba hbel rX bX m0 m1 m2 m3
        go_region
        all_goals (go_wp2_with fail)
        all_goals
          obtain ⟨f', h'⟩ := HR4.out
          exact ⟨⟨k + 1, f', by omega, by go_num, h'⟩, by simp [intOf]; omega⟩
      · have HX2 : Hid (gpCells (ps.map (mapG g)) = gpCells ((ps.take k).map (mapG g)) ++ ([.bool true, .int .i32 sg, .int .i64 lo, .int .i64 hi] ++ gpCells ((ps.drop (k + 1)).map (mapG g)))) := HX.out
        have hx0 := hrow.cell (i := k * 4) (by omega)
        have hx1 := hrow.cell (i := k * 4 + 1) (by omega)
        have hx2 := hrow.cell (i := k * 4 + 2) (by omega)
        have hx3 := hrow.cell (i := k * 4 + 3) (by omega)
        have hz0 := hrow.frozen (k * 4)
        have hz1 := hrow.frozen (k * 4 + 1)
        have hz2 := hrow.frozen (k * 4 + 2)
        have hz3 := hrow.frozen (k * 4 + 3)
        have HR := Lib.hid (row4 _ _ _ _ _ _ _ _ HX2.out HL.out f HP.out)
        have HR4 := Lib.hid (fun o => round4 w.heap.size N k w wr f _ _ _ _ _ _ o hrow HR.out hcB hbel hbs)
        clear HX HX2 HR HP
        go_wp2_with fail
        go_region
        all_goals (go_wp2_with fail)
        all_goals
          obtain ⟨f', h'⟩ := HR4.out (.cells #[.bool true, .int .i32 sg, .int .i64 lo, .int .i64 hi] 68)
          exact ⟨⟨k + 1, f', by omega, by go_num, h'⟩, by simp [intOf]; omega⟩
    · have hkN : k = N := by omega
      go_wp2_with fail
      go_ret
      refine ⟨_, rfl, fun W hz hk2 => ⟨by omega, some ⟨w.heap.size, 0, none⟩, N, ?_, ?_, by unfold maxLen; omega, fun _ => ⟨w.heap.size, 0, rfl, by omega, fun j u hu => ?_⟩⟩, hbel⟩
      · rw [List.length_map, ← HNP.out]; exact (World.cell?_of_block (w := wr) (a := ⟨w.heap.size + 1, 0, none⟩) (hk2 (w.heap.size + 1) (by omega) hbs)).trans hcB
      · rw [List.length_map, ← HNP.out]; exact Nat.le_refl _
      · have hj : j < N * 4 := by
          have := (List.getElem?_eq_some_iff.1 hu).1
          rw [gpCells_len, List.length_map, ← HNP.out] at this
          exact this
        have h1 := HP.out j (by rw [hkN]; exact hj)
        rw [hu] at h1
        rw [Option.some.inj h1, Nat.zero_add]
        exact (World.cell?_of_block (w := wr) (a := ⟨w.heap.size, j, none⟩) (hk2 w.heap.size (Nat.le_refl _) (by omega))).trans (hrow.cell hj)
end Go.Proofs.YtjeccmmhmdgdgaaGreatDoor
