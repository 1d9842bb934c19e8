/- often, firstPart of package glob. -/
import Derived.Test.YtjeccmmhmdgdgaaGreatDoorGlWalk2
namespace Go.Proofs.YtjeccmmhmdgdgaaGreatDoor
open Go.RowKit
set_option maxRecDepth 100000

theorem head_at (l : List UInt8) (h : 0 < (strOf l).size) : l.head? = some ((strOf l)[0]'h) := by
  cases l with
  | nil => exact absurd h (by rw [size8]; simp)
  | cons c t => rfl
theorem head_eq (l : List UInt8) (h : 0 < (strOf l).size) (k : Nat) (hk : k < 256) : ((((strOf l)[0]'h).toNat : Int) == (k : Int)) = decide (l.head? = some (UInt8.ofNat k)) := by
  rw [head_at l h, Bool.eq_iff_iff, beq_iff_eq, decide_eq_true_eq, Option.some.injEq, ← UInt8.toNat_inj, UInt8.toNat_ofNat']
  omega

set_option maxHeartbeats 2000000 in
theorem often_any (l : List UInt8) (hl : l.length ≤ 1000000000) (w : World) :
    Calls Tryz.prog 68 #[.string (strOf l)] w fun e w' => e = .returned (.tuple #[.int .i64 (oftenL l).1, .int .i64 (oftenL l).2.1, .int .i64 (oftenL l).2.2]) ∧ Below w.heap.size w w' := by
  have HH : Hid (oftenL l = if l = [] then (1, 1, 0) else if l.head? = some 63 then (0, 1, 1) else if l.head? = some 43 then (1, maxI, 1) else if l.head? = some 42 then (0, maxI, 1) else if l.head? = some 123 then bracesL l else (1, 1, 0)) := rfl
  by_cases he : l = []
  · have HE : Hid (oftenL l = (1, 1, 0)) := by show _ = _; rw [HH.out, if_pos he]
    have hem : (strOf l).toList.isEmpty = true := by rw [str_empty, he]; rfl
    clear HH he
    go_enter Tryz.func68, Tryz.ntmps68
    go_wp2_with fail
    go_ret3
    exact ⟨by rw [HE.out]; rfl, Below.refl _ _⟩
  · have hem : (strOf l).toList.isEmpty = false := by rw [str_empty]; simpa using he
    have hp := List.length_pos_iff.2 he
    have h0 : 0 < (strOf l).size := by rw [size8]; exact hp
    have q1 := head_eq l h0 63 (by omega)
    have q2 := head_eq l h0 43 (by omega)
    have q3 := head_eq l h0 42 (by omega)
    have q4 := head_eq l h0 123 (by omega)
    have HB := fun hh => Lib.hid (braces_any l hl hp hh w)
    have p1 : ((((strOf l)[0]'h0).toNat : Int) == 63) = decide (l.head? = some 63) := q1
    have p2 : ((((strOf l)[0]'h0).toNat : Int) == 43) = decide (l.head? = some 43) := q2
    have p3 : ((((strOf l)[0]'h0).toNat : Int) == 42) = decide (l.head? = some 42) := q3
    have p4 : ((((strOf l)[0]'h0).toNat : Int) == 123) = decide (l.head? = some 123) := q4
    have HH2 : Hid (oftenL l = if l.head? = some 63 then (0, 1, 1) else if l.head? = some 43 then (1, maxI, 1) else if l.head? = some 42 then (0, maxI, 1) else if l.head? = some 123 then bracesL l else (1, 1, 0)) := by show _ = _; rw [HH.out, if_neg he]
    clear q1 q2 q3 q4 HH he hp
    by_cases c1 : l.head? = some 63
    · have HE : Hid (oftenL l = (0, 1, 1)) := by show _ = _; rw [HH2.out, if_pos c1]
      rw [decide_eq_true c1] at p1
      clear HH2 c1 p2 p3 p4 HB
      go_enter Tryz.func68, Tryz.ntmps68
      go_wp2_with fail
      go_ret3
      exact ⟨by rw [HE.out]; rfl, Below.refl _ _⟩
    rw [decide_eq_false c1] at p1
    by_cases c2 : l.head? = some 43
    · have HE : Hid (oftenL l = (1, 9223372036854775807, 1)) := by show _ = _; rw [HH2.out, if_neg c1, if_pos c2]; rfl
      rw [decide_eq_true c2] at p2
      clear HH2 c1 c2 p3 p4 HB
      go_enter Tryz.func68, Tryz.ntmps68
      go_wp2_with fail
      go_ret3
      exact ⟨by rw [HE.out]; rfl, Below.refl _ _⟩
    rw [decide_eq_false c2] at p2
    by_cases c3 : l.head? = some 42
    · have HE : Hid (oftenL l = (0, 9223372036854775807, 1)) := by show _ = _; rw [HH2.out, if_neg c1, if_neg c2, if_pos c3]; rfl
      rw [decide_eq_true c3] at p3
      clear HH2 c1 c2 c3 p4 HB
      go_enter Tryz.func68, Tryz.ntmps68
      go_wp2_with fail
      go_ret3
      exact ⟨by rw [HE.out]; rfl, Below.refl _ _⟩
    rw [decide_eq_false c3] at p3
    by_cases c4 : l.head? = some 123
    · have HE : Hid (oftenL l = bracesL l) := by show _ = _; rw [HH2.out, if_neg c1, if_neg c2, if_neg c3, if_pos c4]
      have HB2 := HB c4
      rw [decide_eq_true c4] at p4
      clear HH2 c1 c2 c3 c4 HB
      generalize bracesL l = x at *
      obtain ⟨x1, x2, x3⟩ := x
      simp only at HB2
      go_enter Tryz.func68, Tryz.ntmps68
      go_wp2_with fail
      refine HB2.out.mono ?_
      rintro e w1 ⟨rfl, b1⟩
      go_wp2_with fail
      go_ret3
      exact ⟨by rw [HE.out]; rfl, b1⟩
    rw [decide_eq_false c4] at p4
    have HE : Hid (oftenL l = (1, 1, 0)) := by show _ = _; rw [HH2.out, if_neg c1, if_neg c2, if_neg c3, if_neg c4]
    clear HH2 c1 c2 c3 c4 HB
    go_enter Tryz.func68, Tryz.ntmps68
    go_wp2_with fail
    go_ret3
    exact ⟨by rw [HE.out]; rfl, Below.refl _ _⟩

theorem box4 {w w1 : World} {a b c d : Value} {T : TypeId} (hb : Below (w.alloc (.cells #[a, b, c, d] T)).heap.size (w.alloc (.cells #[a, b, c, d] T)) w1) :
    w1.cell? ⟨w.heap.size, 0, none⟩ = some a ∧ w1.cell? ⟨w.heap.size, 1, none⟩ = some b ∧ w1.cell? ⟨w.heap.size, 2, none⟩ = some c ∧ w1.cell? ⟨w.heap.size, 3, none⟩ = some d ∧
    (∀ o, w1.frozen? ⟨w.heap.size, o, none⟩ = false) ∧ w.heap.size < w1.heap.size ∧ Below w.heap.size w w1 := by
  have hz : (w.alloc (.cells #[a, b, c, d] T)).heap.size = w.heap.size + 1 := by simp
  have h := hb.block w.heap.size (by omega)
  rw [heap_alloc_new] at h
  have hs := hb.size
  refine ⟨?_, ?_, ?_, ?_, fun o => ?_, by omega, ((Below.refl _ _).alloc (Nat.le_refl _) _).trans (hb.mono (by omega))⟩
  · simp only [World.cell?, h]; rfl
  · simp only [World.cell?, h]; rfl
  · simp only [World.cell?, h]; rfl
  · simp only [World.cell?, h]; rfl
  · simp only [World.frozen?, h]; simp
theorem set4 {w w1 : World} (h : Below w.heap.size w w1) (a b c d : Value) : Below w.heap.size w ((((w1.setCell ⟨w.heap.size, 0, none⟩ a).setCell ⟨w.heap.size, 1, none⟩ b).setCell ⟨w.heap.size, 2, none⟩ c).setCell ⟨w.heap.size, 3, none⟩ d) :=
  (((h.setCell (Nat.le_refl _) _).setCell (Nat.le_refl _) _).setCell (Nat.le_refl _) _).setCell (Nat.le_refl _) _
theorem ut_keep {w w' : World} (h : UT w) (hb : Below w.heap.size w w') : UT w' := by
  obtain ⟨h1, h2⟩ := h
  have keep : ∀ b o v, w.cell? ⟨b, o, none⟩ = some v → w'.cell? ⟨b, o, none⟩ = some v := fun b o v hc => (hb.cell (p := ⟨b, o, none⟩) (World.block_lt_of_cell? w _ hc)).trans hc
  exact ⟨fun c hc => keep _ _ _ (h1 c hc), fun i hi => ⟨keep _ _ _ (h2 i hi).1, keep _ _ _ (h2 i hi).2⟩⟩
def gpV (p : GP) : Value := .agg #[.bool p.1, .int .i32 p.2.1, .int .i64 p.2.2.1, .int .i64 p.2.2.2]
set_option maxHeartbeats 2000000 in
theorem first_any (l : List UInt8) (hl : l.length ≤ 1000000000) (hp : l ≠ []) (w : World) (hT : UT w) :
    Calls Tryz.prog 50 #[.string (strOf l)] w fun e w' => e = .returned (.tuple #[gpV (firstL l).1, .int .i64 (firstL l).2]) ∧ Below w.heap.size w w' := by
  have hl1 : (l.drop 1).length ≤ 1000000000 := by simp; omega
  have h0 : 0 < (strOf l).size := by rw [size8]; exact List.length_pos_iff.2 hp
  have hz : (strOf l).size ≤ 1000000000 := by rw [size8]; exact hl
  have q1 : ((((strOf l)[0]'h0).toNat : Int) == 46) = decide (l.head? = some 46) := head_eq l h0 46 (by omega)
  have q2 : ((((strOf l)[0]'h0).toNat : Int) == 92) = decide (l.head? = some 92) := head_eq l h0 92 (by omega)
  have hcut := cut8 l 1
  have HF : Hid (firstL l = if l.head? = some 46 then (if (oftenL (l.drop 1)).2.2 < 0 then ((false, 0, 0, 0), 0) else ((true, 0, (oftenL (l.drop 1)).1, (oftenL (l.drop 1)).2.1), 1 + (oftenL (l.drop 1)).2.2))
    else if l.head? = some 92 then (if (nextN (l.drop 1)).2 = 0 then ((false, 0, 0, 0), 0) else ((false, ((nextN (l.drop 1)).1 : Int), 0, 0), 1 + ((nextN (l.drop 1)).2 : Int)))
    else ((false, ((nextN l).1 : Int), 0, 0), ((nextN l).2 : Int))) := rfl
  have HO := Lib.hid (often_any (l.drop 1) hl1)
  have ob := often_bd (l.drop 1)
  have nb := (next_bd (l.drop 1)).1
  have HT := Lib.hid hT
  generalize hq : l.drop 1 = t at *
  clear hq
  by_cases c1 : l.head? = some 46
  · rw [decide_eq_true c1] at q1
    generalize oftenL t = x at *
    obtain ⟨x1, x2, x3⟩ := x
    simp only at HO ob HF
    obtain ⟨ob1, ob2, ob3, ob4, ob5, ob6⟩ := ob
    have ob7 : x3 ≤ 1000000000 := by omega
    clear ob2 ob6
    by_cases hx : x3 < 0
    · have HE : Hid (firstL l = ((false, 0, 0, 0), 0)) := by show _ = _; rw [HF.out, if_pos c1, if_pos hx]
      clear HF c1 q2
      go_enter Tryz.func50, Tryz.ntmps50
      go_wp2_with fail
      refine (HO.out _).mono ?_
      rintro e w1 ⟨rfl, b1⟩
      obtain ⟨m0, m1, m2, m3, mf, mz, bw⟩ := box4 b1
      clear b1
      go_wp2_with fail
      rw [HE.out]
      exact bodyPost_ret (v := .tuple #[gpV (false, 0, 0, 0), .int .i64 0]) (by simp [results, Tryz.results50, go_sem, m0, m1, m2, m3, gpV]) rfl ⟨rfl, set4 bw _ _ _ _⟩
    · have HE : Hid (firstL l = ((true, 0, x1, x2), 1 + x3)) := by show _ = _; rw [HF.out, if_pos c1, if_neg hx]
      have hx' : 0 ≤ x3 := by omega
      clear HF c1 q2 hx
      go_enter Tryz.func50, Tryz.ntmps50
      go_wp2_with fail
      refine (HO.out _).mono ?_
      rintro e w1 ⟨rfl, b1⟩
      obtain ⟨m0, m1, m2, m3, mf, mz, bw⟩ := box4 b1
      clear b1
      go_wp2_with fail
      rw [HE.out]
      exact bodyPost_ret (v := .tuple #[gpV (true, 0, x1, x2), .int .i64 (1 + x3)]) (by simp [results, Tryz.results50, go_sem, m0, m1, m2, m3, gpV]) rfl ⟨rfl, set4 bw _ _ _ _⟩
  · rw [decide_eq_false c1] at q1
    by_cases c2 : l.head? = some 92
    · rw [decide_eq_true c2] at q2
      have HN := Lib.hid (next_any t)
      generalize nextN t = x at *
      obtain ⟨x1, x2⟩ := x
      simp only at HN nb HF
      have hx2 : x2 ≤ 1000000000 := by omega
      clear ob nb
      by_cases hx : x2 = 0
      · have HE : Hid (firstL l = ((false, 0, 0, 0), 0)) := by show _ = _; rw [HF.out, if_neg c1, if_pos c2, if_pos hx]
        subst hx
        clear HF c1 c2 HO
        go_enter Tryz.func50, Tryz.ntmps50
        go_wp2_with fail
        refine (HN.out _ (ut_keep HT.out ((Below.refl _ _).alloc (Nat.le_refl _) _))).mono ?_
        rintro e w1 ⟨rfl, b1⟩
        obtain ⟨m0, m1, m2, m3, mf, mz, bw⟩ := box4 b1
        clear b1
        go_wp2_with fail
        rw [HE.out]
        exact bodyPost_ret (v := .tuple #[gpV (false, 0, 0, 0), .int .i64 0]) (by simp [results, Tryz.results50, go_sem, m0, m1, m2, m3, gpV]) rfl ⟨rfl, set4 bw _ _ _ _⟩
      · have HE : Hid (firstL l = ((false, (x1 : Int), 0, 0), 1 + (x2 : Int))) := by show _ = _; rw [HF.out, if_neg c1, if_pos c2, if_neg hx]
        have hx' : ((x2 : Int) == 0) = false := beq_eq_false_iff_ne.2 (by omega)
        clear HF c1 c2 HO hx
        go_enter Tryz.func50, Tryz.ntmps50
        go_wp2_with fail
        refine (HN.out _ (ut_keep HT.out ((Below.refl _ _).alloc (Nat.le_refl _) _))).mono ?_
        rintro e w1 ⟨rfl, b1⟩
        obtain ⟨m0, m1, m2, m3, mf, mz, bw⟩ := box4 b1
        clear b1
        go_wp2_with fail
        rw [HE.out]
        exact bodyPost_ret (v := .tuple #[gpV (false, (x1 : Int), 0, 0), .int .i64 (1 + (x2 : Int))]) (by simp [results, Tryz.results50, go_sem, m0, m1, m2, m3, gpV]) rfl ⟨rfl, set4 bw _ _ _ _⟩
    · rw [decide_eq_false c2] at q2
      have HN := Lib.hid (next_any l)
      have HE : Hid (firstL l = ((false, ((nextN l).1 : Int), 0, 0), ((nextN l).2 : Int))) := by show _ = _; rw [HF.out, if_neg c1, if_neg c2]
      generalize nextN l = x at *
      obtain ⟨x1, x2⟩ := x
      simp only at HN HE
      clear ob nb HF c1 c2 HO
      go_enter Tryz.func50, Tryz.ntmps50
      go_wp2_with fail
      refine (HN.out _ (ut_keep HT.out ((Below.refl _ _).alloc (Nat.le_refl _) _))).mono ?_
      rintro e w1 ⟨rfl, b1⟩
      obtain ⟨m0, m1, m2, m3, mf, mz, bw⟩ := box4 b1
      clear b1
      go_wp2_with fail
      rw [HE.out]
      exact bodyPost_ret (v := .tuple #[gpV (false, (x1 : Int), 0, 0), .int .i64 (x2 : Int)]) (by simp [results, Tryz.results50, go_sem, m0, m1, m2, m3, gpV]) rfl ⟨rfl, set4 bw _ _ _ _⟩
end Go.Proofs.YtjeccmmhmdgdgaaGreatDoor
