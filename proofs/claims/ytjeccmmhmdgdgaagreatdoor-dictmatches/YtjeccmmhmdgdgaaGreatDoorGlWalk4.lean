/- glob.Parse. -/
import Derived.Test.YtjeccmmhmdgdgaaGreatDoorGlWalk3
import Derived.Test.YtjeccmmhmdgdgaaGreatDoorCs
import Derived.Deep.RegionLaw
import Derived.Deep.AppendLies
import Derived.BigRegion
import Derived.OwnWalk
namespace Go.Proofs.YtjeccmmhmdgdgaaGreatDoor
open Go.RowKit
set_option maxRecDepth 100000

def gpCells (ps : List GP) : List Value := ps.flatMap fun p => [.bool p.1, .int .i32 p.2.1, .int .i64 p.2.2.1, .int .i64 p.2.2.2]
theorem gpCells_len (ps : List GP) : (gpCells ps).length = ps.length * 4 := by
  induction ps with
  | nil => rfl
  | cons p t ih => rw [show gpCells (p :: t) = [.bool p.1, .int .i32 p.2.1, .int .i64 p.2.2.1, .int .i64 p.2.2.2] ++ gpCells t from rfl, List.length_append, ih]; simp; omega
theorem gpCells_snoc (ps : List GP) (p : GP) : gpCells (ps ++ [p]) = gpCells ps ++ [.bool p.1, .int .i32 p.2.1, .int .i64 p.2.2.1, .int .i64 p.2.2.2] := by simp [gpCells]
theorem gp_one (p : GP) : ∀ u ∈ ([.bool p.1, .int .i32 p.2.1, .int .i64 p.2.2.1, .int .i64 p.2.2.2] : List Value), u.oneCell' = true := by
  intro u hu
  simp only [List.mem_cons, List.not_mem_nil, or_false] at hu
  rcases hu with rfl | rfl | rfl | rfl <;> rfl
/-- The pattern at R. -/
def GlobAt (w : World) (B R : Nat) (ps : List GP) : Prop := B ≤ R ∧ R < w.heap.size ∧ w.frozen? ⟨R, 0, none⟩ = false ∧ ∃ v, w.cell? ⟨R, 0, none⟩ = some v ∧ w.ownsRow (R + 1) 68 4 v ps.length (gpCells ps)
def ParsePost (l : List UInt8) (w : World) (e : Ending) (w' : World) : Prop :=
  Below w.heap.size w w' ∧ ((Lib.validD l = false ∧ e = .returned (.tuple #[.pointer none, .int .i64 10])) ∨
    (Lib.validD l = true ∧ ((∃ c, parseL l.length l [] = .error c ∧ e = .returned (.tuple #[.pointer none, .int .i64 c])) ∨
      ∃ ps R, parseL l.length l [] = .ok ps ∧ e = .returned (.tuple #[.pointer (some ⟨R, 0, none⟩), .int .i64 0]) ∧ GlobAt w' w.heap.size R ps)))
theorem info_part : (Tryz.prog.info? 68).map (fun i => (i.zero, i.size, i.bytes)) = some (some (.agg #[.bool false, .int .i32 0, .int .i64 0, .int .i64 0]), 4, 24) := by kernel_rfl
def sz : Value → Nat | .string s => s.size | _ => 0
theorem right_is (l : List UInt8) (b : Bool) (h : Hid (Lib.validD l = b)) (w : World) (hT : UT w) (hl : l.length ≤ 1000000000) :
    Calls Tryz.prog 13 #[.string (strOf l)] w fun e w' => e = .returned (.bool b) ∧ Below w.heap.size w w' := by
  have h' := h.out; subst h'; exact right_any l w hT (by omega)
theorem fz_keep {w w' : World} {B R : Nat} (hb : Below B w w') (hR : R < B) (o : Nat) : w'.frozen? ⟨R, o, none⟩ = w.frozen? ⟨R, o, none⟩ := by
  unfold World.frozen?
  rw [hb.block R hR]

theorem own_far {w : World} {base : Nat} {t : TypeId} {size : Nat} {v : Value} {n : Nat} {xs : List Value} (h : w.ownsRow base t size v n xs) {p : Addr} (hne : ∀ b, v.ownBlock = some b → b ≠ p.block) (u : Value) : (w.setCell p u).ownsRow base t size v n xs := by
  refine ⟨h.1, ?_⟩
  rcases h.2 with h | ⟨g, cap, cur, hv, hg, hh, r⟩
  · exact .inl h
  · exact .inr ⟨g, cap, cur, hv, hg, (Below.heap_setCell w p u g (hne g (by rw [hv]; rfl))).trans hh, r⟩
set_option maxHeartbeats 4000000 in
theorem parse_any (l : List UInt8) (hl : l.length ≤ 1000000) (w : World) (hT : UT w) :
    Calls Tryz.prog 31 #[.string (strOf l)] w (ParsePost l w) := by
  obtain ⟨i0, hi, hz0, hz1, hz2⟩ := info_parts info_part
  cases hv : Lib.validD l
  · have HV := Lib.hid hv
    clear hv
    go_enter Tryz.func31, Tryz.ntmps31
    go_wp2_with fail
    with_reducible refine (right_is _ _ HV _ hT (by omega)).mono ?_
    rintro e w1 ⟨rfl, b1⟩
    go_wp2_with fail
    go_ret2
    exact ⟨b1, .inl ⟨HV.out, rfl⟩⟩
  · have HV := Lib.hid hv
    have HT := Lib.hid hT
    clear hv hT
    go_enter Tryz.func31, Tryz.ntmps31
    go_wp2_with fail
    with_reducible refine (right_is _ _ HV _ HT.out (by omega)).mono ?_
    rintro e w1 ⟨rfl, b1⟩
    go_wp2_with fail
    go_loopw [0] (fun s wr => ∃ (f : Nat) (t : List UInt8) (acc : List GP) (v : Value), s = .string (strOf t) ∧ t.length ≤ f ∧ t.length ≤ l.length ∧ Hid (parseL f t acc = parseL l.length l []) ∧ acc.length ≤ 200 ∧
      wr.cell? ⟨w1.heap.size, 0, none⟩ = some v ∧ wr.frozen? ⟨w1.heap.size, 0, none⟩ = false ∧ wr.ownsRow (w1.heap.size + 1) 68 4 v acc.length (gpCells acc) ∧ Below w1.heap.size w1 wr ∧ w1.heap.size < wr.heap.size) (fun s _ => sz s)
    case atStart =>
      refine ⟨l.length, l, [], .slice none 0 0, rfl, Nat.le_refl _, Nat.le_refl _, rfl, by simp, ?_, ?_, ⟨by simp [gpCells], .inl ⟨rfl, rfl⟩⟩, (Below.refl _ _).alloc (Nat.le_refl _) _, by simp⟩
      · simp
      · simp
    case round =>
      obtain ⟨f, t, acc, v, rfl, hft, htl, HP, hacc, hc, hf, hown, hbel, hsz⟩ := hrel
      by_cases he : t = []
      · have hem : (strOf t).toList.isEmpty = true := by rw [str_empty, he]; rfl
        have HE : Hid (parseL l.length l [] = .ok acc) := by
          show _ = _
          rw [← HP.out, he]
          cases f <;> simp [parseL]
        clear he
        go_wp2_with fail
        go_ret2
        exact ⟨b1.trans (hbel.mono b1.size), .inr ⟨HV.out, .inr ⟨acc, w1.heap.size, HE.out, rfl, b1.size, hsz, hf, v, hc, hown⟩⟩⟩
      · have hem : (strOf t).toList.isEmpty = false := by rw [str_empty]; simpa using he
        obtain ⟨A, c, rfl, hac, hcm, hcs, hob⟩ := own_form hown
        unfold maxLen at hcm
        obtain ⟨m, hm⟩ : ∃ m, m = acc.length := ⟨_, rfl⟩
        rw [← hm] at hac hacc hown hc hob
        have HM := Lib.hid hm
        by_cases h200 : m = 200
        · have HE : Hid (parseL l.length l [] = .error 3) := by
            show _ = _
            rw [← HP.out]
            cases f with
            | zero => exact absurd (List.eq_nil_of_length_eq_zero (by omega)) he
            | succ f => rw [parseL, if_neg he, if_pos (by omega)]
          have hb200 : ((m : Int) == 200) = true := beq_iff_eq.2 (by omega)
          clear he h200 hm hown
          go_wp2_with fail
          go_ret2
          exact ⟨b1.trans (hbel.mono b1.size), .inr ⟨HV.out, .inl ⟨3, HE.out, rfl⟩⟩⟩
        · have hb200 : ((m : Int) == 200) = false := beq_eq_false_iff_ne.2 (by omega)
          have hm199 : m < 200 := by omega
          have bwr : Below w.heap.size w wr := b1.trans (hbel.mono b1.size)
          have HF := Lib.hid (first_any t (by omega) he wr (ut_keep HT.out bwr))
          have fb := first_bd t he
          have HX : Hid (parseL l.length l [] = if (firstL t).2 = 0 then .error 20 else parseL (f - 1) (t.drop (firstL t).2.toNat) (acc ++ [(firstL t).1])) := by
            show _ = _
            rw [← HP.out]
            cases f with
            | zero => exact absurd (List.eq_nil_of_length_eq_zero (by omega)) he
            | succ f => rw [parseL, if_neg he, if_neg (by omega)]; rfl
          have htp := List.length_pos_iff.2 he
          have hts : (strOf t).size ≤ 1000000 := by rw [size8]; omega
          generalize firstL t = x at *
          obtain ⟨⟨d, sg, lo, hi'⟩, n⟩ := x
          simp only at fb HX
          simp only [gpV] at HF
          obtain ⟨fb1, fb2, _⟩ := fb
          obtain ⟨k, rfl⟩ := Int.eq_ofNat_of_zero_le fb1
          rw [← size8 t] at fb2
          clear he hm HP
          by_cases hk : k = 0
          · have HE : Hid (parseL l.length l [] = .error 20) := by show _ = _; rw [HX.out, if_pos (by omega)]
            have hk0 : ((k : Int) == 0) = true := beq_iff_eq.2 (by omega)
            clear HX hk hown h200
            go_wp2_with fail
            refine HF.out.mono ?_
            rintro e w2 ⟨rfl, b2⟩
            have b3 : Below w.heap.size w w2 := bwr.trans (b2.mono bwr.size)
            go_wp2_with fail
            go_ret2
            exact ⟨b3.alloc b3.size _, .inr ⟨HV.out, .inl ⟨20, HE.out, rfl⟩⟩⟩
          · have HE : Hid (parseL (f - 1) (t.drop k) (acc ++ [(d, sg, lo, hi')]) = parseL l.length l []) := by show _ = _; rw [HX.out, if_neg (by omega)]; rfl
            have hk0 : ((k : Int) == 0) = false := beq_eq_false_iff_ne.2 (by omega)
            have hcut := cut8 t k
            have hks : k ≤ (strOf t).size := by omega
            clear HX h200
            go_wp2_with fail
            refine HF.out.mono ?_
            rintro e w2 ⟨rfl, b2⟩
            have hc2 : w2.cell? ⟨w1.heap.size, 0, none⟩ = some (.slice A m c) := (b2.cell (p := ⟨w1.heap.size, 0, none⟩) hsz).trans hc
            have hf2 : w2.frozen? ⟨w1.heap.size, 0, none⟩ = false := (fz_keep b2 hsz 0).trans hf
            have hown2 := own_below hown b2
            have hs2 : w1.heap.size < w2.heap.size := Nat.lt_of_lt_of_le hsz b2.size
            have hbel2 : Below w1.heap.size w1 w2 := hbel.trans (b2.mono (Nat.le_of_lt hsz))
            clear hc hf hown hbel b2 hcs
            go_wp2_with fail
            obtain ⟨W, hW⟩ : ∃ W, W = w2.alloc (.cells #[.bool d, .int .i32 sg, .int .i64 lo, .int .i64 hi'] 68) := ⟨_, rfl⟩
            obtain ⟨p0, p1, p2, p3, _, _, _⟩ := box4 (w := w2) (w1 := W) (a := .bool d) (b := .int .i32 sg) (c := .int .i64 lo) (d := .int .i64 hi') (T := 68) (by rw [hW]; exact Below.refl _ _)
            have hcW : W.cell? ⟨w1.heap.size, 0, none⟩ = some (.slice A m c) := by rw [hW, World.cell?_alloc_past _ _ _ hs2]; exact hc2
            have hfW : W.frozen? ⟨w1.heap.size, 0, none⟩ = false := by rw [hW, World.frozen?_alloc_past _ _ _ hs2]; exact hf2
            have hownW : W.ownsRow (w1.heap.size + 1) 68 4 (.slice A m c) m (gpCells acc) := by rw [hW]; exact own_below hown2 ((Below.refl _ _).alloc (Nat.le_refl _) _)
            have hbelW : Below w1.heap.size w1 W := by rw [hW]; exact hbel2.alloc hbel2.size _
            have hsW : w1.heap.size + 1 ≤ W.heap.size := by rw [hW]; simp; omega
            have hneR : some w1.heap.size ≠ (Value.slice A m c).ownBlock := fun e => by have := (hob _ e.symm).1; omega
            have hAD : ∀ o : Obj, (W.alloc o).drew.cell? ⟨w1.heap.size, 0, none⟩ = some (.slice A m c) ∧ (W.alloc o).drew.frozen? ⟨w1.heap.size, 0, none⟩ = false := fun o => by
              refine ⟨?_, ?_⟩
              · show (W.alloc o).cell? _ = _; rw [World.cell?_alloc_past _ _ _ (by omega)]; exact hcW
              · show (W.alloc o).frozen? _ = _; rw [World.frozen?_alloc_past _ _ _ (by omega)]; exact hfW
            have HAD := Lib.hid hAD
            have hltR : w1.heap.size < W.heap.size := hsW
            clear hAD
            rw [← hW]
            clear hW hc2 hf2 hown2 hbel2
            go_region_law ((refine step_append_lies _ (by rfl) _ _ _ (by rfl) (w1.heap.size + 1) 68 i0 _ 4 24 Tryz.underlying64 hi hz0 hz1 hz2 rfl (by omega) (.slice A m c) m (gpCells acc) (by rfl) ((hownW.alloc _).drew) ⟨W.heap.size, 0, none⟩ 1 1 [.bool d, .int .i32 sg, .int .i64 lo, .int .i64 hi'] (by rfl) (by rfl) (World.news_of_block (cs := #[.bool d, .int .i32 sg, .int .i64 lo, .int .i64 hi']) (t := 68) (fr := (0, 0)) (heap_alloc_new W _)) (gp_one (d, sg, lo, hi')) (by omega) (by unfold maxLen; omega) (by omega) (by simp; omega) (W.heap.size + 1) (by simp) ?_; intro gg cap w4 hown4 hgrow hat hlt; have k4 := (hgrow.cell_far ⟨w1.heap.size, 0, none⟩ (by simp; omega) hneR).trans (HAD.out _).1; have f4 := (hgrow.frozen_far ⟨w1.heap.size, 0, none⟩ (by simp; omega) hneR).trans (HAD.out _).2))
            all_goals
              have hob4 : ∀ b, (Value.slice (some ⟨gg, 0, none⟩) (m + 1) cap).ownBlock = some b → b ≠ w1.heap.size := fun b e => by have := (own_form hown4).choose_spec.choose_spec.2.2.2.2 b e; omega
              have hown5 := own_far hown4 (p := ⟨w1.heap.size, 0, none⟩) hob4 (.slice (some ⟨gg, 0, none⟩) (m + 1) cap)
              have hc5 := World.cell?_setCell_same w4 ⟨w1.heap.size, 0, none⟩ (.slice (some ⟨gg, 0, none⟩) (m + 1) cap) k4
              have hf5 : (w4.setCell ⟨w1.heap.size, 0, none⟩ (.slice (some ⟨gg, 0, none⟩) (m + 1) cap)).frozen? ⟨w1.heap.size, 0, none⟩ = false := by simpa using f4
              have hbel4 : Below w1.heap.size w1 w4 := own_grow (B := w1.heap.size) ((hownW.alloc _).drew) (by omega) ((hbelW.alloc hbelW.size _).drew) (by simp; omega) hgrow
              have hbel5 := hbel4.setCell (p := ⟨w1.heap.size, 0, none⟩) (Nat.le_refl _) (.slice (some ⟨gg, 0, none⟩) (m + 1) cap)
              have hsz5 : w1.heap.size < (w4.setCell ⟨w1.heap.size, 0, none⟩ (.slice (some ⟨gg, 0, none⟩) (m + 1) cap)).heap.size := by
                have := hgrow.size
                simp at this ⊢
                omega
              clear hown4 hgrow hat hlt k4 f4 hob4 hbel4
              generalize w4.setCell ⟨w1.heap.size, 0, none⟩ (.slice (some ⟨gg, 0, none⟩) (m + 1) cap) = w5 at *
              go_wp2_with fail
              refine ⟨⟨f - 1, t.drop k, acc ++ [(d, sg, lo, hi')], .slice (some ⟨gg, 0, none⟩) (m + 1) cap, rfl, by simp; omega, by simp; omega, HE, by simp; have := HM.out; omega, hc5, hf5, ?_, hbel5, hsz5⟩, ?_⟩
              · rw [List.length_append, ← HM.out, gpCells_snoc]; exact hown5
              · show (strOf (t.drop k)).size < (strOf t).size
                rw [size8, size8]
                simp
                omega
end Go.Proofs.YtjeccmmhmdgdgaaGreatDoor
