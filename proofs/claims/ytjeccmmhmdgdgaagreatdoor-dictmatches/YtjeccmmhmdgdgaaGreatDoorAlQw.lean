/- Match and Prefix of package alike; words of a question, by what they match and begin with. -/
import Derived.Test.YtjeccmmhmdgdgaaGreatDoorAlMp
import Derived.BigQuiet
namespace Go.Proofs.YtjeccmmhmdgdgaaGreatDoor
open Go.RowKit
set_option maxRecDepth 100000

set_option maxHeartbeats 2000000 in
theorem wm_any (a b c d e : Bool) (t l : List UInt8) (p : Option Addr) (w : World) :
    Calls Tryz.prog 10 #[.agg #[.bool true, .bool a, .bool b, .bool c, .bool d, .bool e, .string (strOf t), .pointer p], .string (strOf l)] w fun e w' => e = .returned (.bool true) ∧ Below w.heap.size w w' := by
  have b0 := (Below.refl w.heap.size w).alloc (Nat.le_refl _) (.cells #[.bool true, .bool a, .bool b, .bool c, .bool d, .bool e, .string (strOf t), .pointer p] 29)
  go_enter Tryz.func10, Tryz.ntmps10
  go_wp2_with fail
  go_ret
  exact ⟨rfl, b0⟩
set_option maxHeartbeats 4000000 in
theorem wm_text (cs mk st sp wd : Bool) (t l : List UInt8) (hl : l.length ≤ 10000000) (w : World) (hT : UT w) :
    Calls Tryz.prog 10 #[.agg #[.bool false, .bool cs, .bool mk, .bool st, .bool sp, .bool wd, .string (strOf t), .pointer none], .string (strOf l)] w fun e w' => e = .returned (.bool (decide (ofL cs mk st l = t))) ∧ Below w.heap.size w w' := by
  obtain ⟨q, hq⟩ : ∃ q, ofL cs mk st l = q := ⟨_, rfl⟩
  have HOF : Hid (ofL cs mk st l = q ∧ l.length ≤ 10000000) := ⟨hq, hl⟩
  obtain ⟨X, hX⟩ : ∃ X, w.alloc (.cells #[.bool false, .bool cs, .bool mk, .bool st, .bool sp, .bool wd, .string (strOf t), .pointer none] 29) = X := ⟨_, rfl⟩
  have b0 : Below w.heap.size w X := by rw [← hX]; exact (Below.refl _ _).alloc (Nat.le_refl _) _
  have hc : ∀ W, Below X.heap.size X W → ∀ k v, [Value.bool false, .bool cs, .bool mk, .bool st, .bool sp, .bool wd, .string (strOf t), .pointer none][k]? = some v → W.cell? ⟨w.heap.size, k, none⟩ = some v := fun W hb k v h => by
    rw [hb.cell (p := ⟨w.heap.size, k, none⟩) (by rw [← hX]; simp), ← hX]
    have z := new_cells w #[.bool false, .bool cs, .bool mk, .bool st, .bool sp, .bool wd, .string (strOf t), .pointer none] 29 (0, 0) k v h
    rwa [add_addr, Nat.zero_add] at z
  have TX := ut_keep hT b0
  have K : Hid (∀ W, Below X.heap.size X W → Calls Tryz.prog 16 #[.agg #[.bool cs, .bool mk, .bool st, .bool sp, .bool wd], .string (strOf l)] W fun e w' => e = .returned (.string (strOf q)) ∧ Below X.heap.size X w') := fun W hb =>
    (of_is cs mk st sp wd l q HOF W (ut_keep TX hb)).mono fun e w' h => ⟨h.1, hb.trans (h.2.mono hb.size)⟩
  have HS : Hid (∀ W, Below X.heap.size X W → W.cell? ⟨w.heap.size, 1, none⟩ = some (.bool cs) ∧ W.cell? ⟨w.heap.size, 2, none⟩ = some (.bool mk) ∧ W.cell? ⟨w.heap.size, 3, none⟩ = some (.bool st) ∧ W.cell? ⟨w.heap.size, 4, none⟩ = some (.bool sp) ∧ W.cell? ⟨w.heap.size, 5, none⟩ = some (.bool wd) ∧ W.cell? ⟨w.heap.size, 6, none⟩ = some (.string (strOf t))) := fun W hb =>
    ⟨hc W hb 1 _ rfl, hc W hb 2 _ rfl, hc W hb 3 _ rfl, hc W hb 4 _ rfl, hc W hb 5 _ rfl, hc W hb 6 _ rfl⟩
  have c0 := hc X (Below.refl _ _) 0 _ rfl
  have c7 := hc X (Below.refl _ _) 7 _ rfl
  have HB := Lib.hid b0
  have HE : Hid (((strOf q).toList == (strOf t).toList) = decide (ofL cs mk st l = t)) := by
    show _ = _
    rw [hq, show (strOf t).toList = t by rw [ByteArray.toList_eq, str_data]]
    exact str_eqL q t
  clear b0 hc TX hq
  go_enter Tryz.func10, Tryz.ntmps10
  go_wp2_with fail
  go_region_held3 (fun W => W.cell? ⟨w.heap.size, 1, none⟩ = some (.bool cs) ∧ W.cell? ⟨w.heap.size, 2, none⟩ = some (.bool mk) ∧ W.cell? ⟨w.heap.size, 3, none⟩ = some (.bool st) ∧ W.cell? ⟨w.heap.size, 4, none⟩ = some (.bool sp) ∧ W.cell? ⟨w.heap.size, 5, none⟩ = some (.bool wd) ∧ W.cell? ⟨w.heap.size, 6, none⟩ = some (.string (strOf t)))
    (first | exact HS.out _ (Below.refl _ _).drew | exact HS.out _ (by assumption))
    (first
      | (go_at_call 16; (with_reducible refine (K.out _ ?_).mono ?_); (first | exact (Below.refl _ _).drew | assumption); rintro e w4 ⟨rfl, hb4⟩))
  all_goals
    go_wp2_with fail
    go_ret
    exact ⟨by rw [← HE.out]; rfl, HB.out.trans ((show Below X.heap.size X _ by assumption).mono HB.out.size)⟩
set_option maxHeartbeats 4000000 in
theorem wm_pat (cs mk st sp wd : Bool) (t l : List UInt8) (R : Nat) (ps : List GP) (hps : ps.length ≤ 200) (hok : okGP ps) (hl : l.length ≤ 10000) (w : World) (hT : UT w) (hG : GlobW w R ps) :
    Calls Tryz.prog 10 #[.agg #[.bool false, .bool cs, .bool mk, .bool st, .bool sp, .bool wd, .string (strOf t), .pointer (some ⟨R, 0, none⟩)], .string (strOf l)] w fun e w' => e = .returned (.bool (matchT ps (wholeL cs mk l))) ∧ Below w.heap.size w w' := by
  have hwl := wholeL_len cs mk l
  obtain ⟨q, hq⟩ : ∃ q, wholeL cs mk l = q := ⟨_, rfl⟩
  have HOF : Hid (wholeL cs mk l = q ∧ l.length ≤ 10000000) := ⟨hq, by omega⟩
  obtain ⟨x, hx⟩ : ∃ x, matchT ps q = x := ⟨_, rfl⟩
  obtain ⟨X, hX⟩ : ∃ X, w.alloc (.cells #[.bool false, .bool cs, .bool mk, .bool st, .bool sp, .bool wd, .string (strOf t), .pointer (some ⟨R, 0, none⟩)] 29) = X := ⟨_, rfl⟩
  have b0 : Below w.heap.size w X := by rw [← hX]; exact (Below.refl _ _).alloc (Nat.le_refl _) _
  have hc : ∀ W, Below X.heap.size X W → ∀ k v, [Value.bool false, .bool cs, .bool mk, .bool st, .bool sp, .bool wd, .string (strOf t), .pointer (some ⟨R, 0, none⟩)][k]? = some v → W.cell? ⟨w.heap.size, k, none⟩ = some v := fun W hb k v h => by
    rw [hb.cell (p := ⟨w.heap.size, k, none⟩) (by rw [← hX]; simp), ← hX]
    have z := new_cells w #[.bool false, .bool cs, .bool mk, .bool st, .bool sp, .bool wd, .string (strOf t), .pointer (some ⟨R, 0, none⟩)] 29 (0, 0) k v h
    rwa [add_addr, Nat.zero_add] at z
  have TX := ut_keep hT b0
  have GX := hG.keep b0
  have K : Hid (∀ W, Below X.heap.size X W → Calls Tryz.prog 23 #[.agg #[.bool cs, .bool mk, .bool st, .bool sp, .bool wd], .string (strOf l)] W fun e w' => e = .returned (.string (strOf q)) ∧ Below X.heap.size X w') := fun W hb =>
    (whole_is cs mk st sp wd l q HOF W (ut_keep TX hb)).mono fun e w' h => ⟨h.1, hb.trans (h.2.mono hb.size)⟩
  have K2 : Hid (∀ W, Below X.heap.size X W → Calls Tryz.prog 22 #[.pointer (some ⟨R, 0, none⟩), .string (strOf q)] W fun e w' => e = .returned (.bool x) ∧ Below X.heap.size X w') := fun W hb => by
    rw [← hx]
    exact (match_t q (by rw [← hq]; omega) ps hps hok R W (ut_keep TX hb) (GX.keep hb)).mono fun e w' h => ⟨h.1, hb.trans (h.2.mono hb.size)⟩
  have HS : Hid (∀ W, Below X.heap.size X W → W.cell? ⟨w.heap.size, 1, none⟩ = some (.bool cs) ∧ W.cell? ⟨w.heap.size, 2, none⟩ = some (.bool mk) ∧ W.cell? ⟨w.heap.size, 3, none⟩ = some (.bool st) ∧ W.cell? ⟨w.heap.size, 4, none⟩ = some (.bool sp) ∧ W.cell? ⟨w.heap.size, 5, none⟩ = some (.bool wd) ∧ W.cell? ⟨w.heap.size, 7, none⟩ = some (.pointer (some ⟨R, 0, none⟩))) := fun W hb =>
    ⟨hc W hb 1 _ rfl, hc W hb 2 _ rfl, hc W hb 3 _ rfl, hc W hb 4 _ rfl, hc W hb 5 _ rfl, hc W hb 7 _ rfl⟩
  have c0 := hc X (Below.refl _ _) 0 _ rfl
  have c7 := hc X (Below.refl _ _) 7 _ rfl
  have HB := Lib.hid b0
  have HE : Hid (matchT ps (wholeL cs mk l) = x) := by show _ = _; rw [hq, hx]
  clear b0 hc TX GX hG hT hq hx hok hwl
  go_enter Tryz.func10, Tryz.ntmps10
  go_wp2_with fail
  go_region_held3 (fun W => W.cell? ⟨w.heap.size, 1, none⟩ = some (.bool cs) ∧ W.cell? ⟨w.heap.size, 2, none⟩ = some (.bool mk) ∧ W.cell? ⟨w.heap.size, 3, none⟩ = some (.bool st) ∧ W.cell? ⟨w.heap.size, 4, none⟩ = some (.bool sp) ∧ W.cell? ⟨w.heap.size, 5, none⟩ = some (.bool wd) ∧ W.cell? ⟨w.heap.size, 7, none⟩ = some (.pointer (some ⟨R, 0, none⟩)))
    (first | exact HS.out _ (Below.refl _ _).drew | exact HS.out _ (by assumption))
    (first
      | (go_at_call 23; (with_reducible refine (K.out _ ?_).mono ?_); (first | exact (Below.refl _ _).drew | assumption); rintro e w4 ⟨rfl, hb4⟩)
      | (go_at_call 22; (with_reducible refine (K2.out _ ?_).mono ?_); (first | exact (Below.refl _ _).drew | assumption); rintro e w5 ⟨rfl, hb5⟩))
  all_goals
    go_wp2_with fail
    go_ret
    exact ⟨by rw [HE.out]; rfl, HB.out.trans ((show Below X.heap.size X _ by assumption).mono HB.out.size)⟩
set_option maxHeartbeats 2000000 in
theorem wp_none (any a b c d e : Bool) (h : any = true ∨ a = false ∨ b = false) (t : List UInt8) (p : Option Addr) (w : World) :
    Calls Tryz.prog 21 #[.agg #[.bool any, .bool a, .bool b, .bool c, .bool d, .bool e, .string (strOf t), .pointer p]] w fun e w' => e = .returned (.string (strOf [])) ∧ Below w.heap.size w w' := by
  have b0 := (Below.refl w.heap.size w).alloc (Nat.le_refl _) (.cells #[.bool any, .bool a, .bool b, .bool c, .bool d, .bool e, .string (strOf t), .pointer p] 29)
  cases any <;> cases a <;> cases b <;> simp at h
  all_goals
    go_enter Tryz.func21, Tryz.ntmps21
    go_wp2_with fail
    go_ret
    exact ⟨rfl, b0⟩
set_option maxHeartbeats 2000000 in
theorem wp_text (c d e : Bool) (t : List UInt8) (w : World) :
    Calls Tryz.prog 21 #[.agg #[.bool false, .bool true, .bool true, .bool c, .bool d, .bool e, .string (strOf t), .pointer none]] w fun e w' => e = .returned (.string (strOf (if c then [] else t))) ∧ Below w.heap.size w w' := by
  have b0 := (Below.refl w.heap.size w).alloc (Nat.le_refl _) (.cells #[.bool false, .bool true, .bool true, .bool c, .bool d, .bool e, .string (strOf t), .pointer none] 29)
  cases c
  all_goals
    go_enter Tryz.func21, Tryz.ntmps21
    go_wp2_with fail
    go_ret
    exact ⟨rfl, b0⟩
set_option maxHeartbeats 2000000 in
theorem wp_pat (c d e : Bool) (t : List UInt8) (R : Nat) (ps : List GP) (hps : ps.length ≤ 200) (w : World) (hG : GlobW w R ps) :
    Calls Tryz.prog 21 #[.agg #[.bool false, .bool true, .bool true, .bool c, .bool d, .bool e, .string (strOf t), .pointer (some ⟨R, 0, none⟩)]] w fun e w' => e = .returned (.string (strOf (prefL ps))) ∧ Below w.heap.size w w' := by
  have b0 := (Below.refl w.heap.size w).alloc (Nat.le_refl _) (.cells #[.bool false, .bool true, .bool true, .bool c, .bool d, .bool e, .string (strOf t), .pointer (some ⟨R, 0, none⟩)] 29)
  obtain ⟨q, hq⟩ : ∃ q, prefL ps = q := ⟨_, rfl⟩
  have HQ : Hid (prefL ps = q ∧ ps.length ≤ 200) := ⟨hq, hps⟩
  have HG := Lib.hid (hG.keep b0)
  rw [hq]
  clear hG hq
  go_enter Tryz.func21, Tryz.ntmps21
  go_wp2_with fail
  with_reducible refine (prefix_iw ps q HQ R _ HG.out).mono ?_
  rintro e w1 ⟨rfl, b1⟩
  have b2 := b0.trans (b1.mono b0.size)
  go_wp2_with fail
  go_ret
  exact ⟨rfl, b2⟩
end Go.Proofs.YtjeccmmhmdgdgaaGreatDoor
