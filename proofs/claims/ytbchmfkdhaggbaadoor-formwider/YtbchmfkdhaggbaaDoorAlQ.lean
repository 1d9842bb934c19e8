/- Make, by what its word matches and begins with. -/
import Derived.Test.YtbchmfkdhaggbaaDoorAlQw
namespace Go.Proofs.YtbchmfkdhaggbaaDoor
open Go.RowKit
set_option maxRecDepth 100000

theorem parse_err : ∀ (f : Nat) (t : List UInt8) (acc : List GP) (c : Int), parseL f t acc = .error c → c = 3 ∨ c = 20
  | 0, t, acc, c, h => by rw [parseL] at h; cases h
  | f + 1, t, acc, c, h => by
    rw [parseL] at h
    by_cases he : t = []
    · rw [if_pos he] at h; cases h
    · rw [if_neg he] at h
      split at h
      · cases h; exact .inl rfl
      · split at h
        · cases h; exact .inr rfl
        · exact parse_err f _ _ c h
/-- The error of a pattern; its parts. -/
def pE (l : List UInt8) : Int := match parseL l.length l [] with | .ok _ => 0 | .error c => c
def pP (l : List UInt8) : List GP := match parseL l.length l [] with | .ok ps => ps | .error _ => []
theorem pE_ok {l : List UInt8} (h : pE l = 0) : parseL l.length l [] = .ok (pP l) := by
  unfold pE at h; unfold pP
  cases hp : parseL l.length l [] with
  | ok ps => rfl
  | error c => rw [hp] at h; simp only at h; rcases parse_err _ _ _ _ hp with e | e <;> omega
theorem pE_bad {l : List UInt8} (h : pE l ≠ 0) : parseL l.length l [] = .error (pE l) := by
  unfold pE at h ⊢
  cases hp : parseL l.length l [] with
  | ok ps => rw [hp] at h; exact absurd rfl h
  | error c => rfl
theorem pP_sg (l : List UInt8) : sgGP (pP l) := by
  unfold pP
  cases hp : parseL l.length l [] with
  | ok ps => exact sg_of_parse hp
  | error c => intro p hp; simp at hp
theorem pP_ok (l : List UInt8) : okGP (pP l) ∧ (pP l).length ≤ 200 := by
  unfold pP
  cases hp : parseL l.length l [] with
  | ok ps => exact ok_of_parse hp
  | error c => exact ⟨fun p hp => by simp at hp, by simp⟩
/-- What Make's error is; which words match; with what they begin. -/
def mkE (l : List UInt8) (sp wd : Bool) : Int := if Lib.validD l then (if sp && stopB l then 0 else if wd then pE l else 0) else 10
def anyQ (l : List UInt8) (sp : Bool) : Bool := sp && stopB l
def partsQ (l : List UInt8) (cs mk : Bool) : List GP := (pP l).map (mapG (signO cs mk))
noncomputable def matQ (l : List UInt8) (cs mk st sp wd : Bool) (u : List UInt8) : Bool := if anyQ l sp then true else if wd then matchT (partsQ l cs mk) (wholeL cs mk u) else decide (ofL cs mk st u = ofL cs mk st l)
def preQ (l : List UInt8) (cs mk st sp wd : Bool) : List UInt8 := if anyQ l sp || (!cs || !mk) then [] else if wd then prefL (partsQ l cs mk) else if st then [] else ofL cs mk st l
/-- A word of a question: what it matches, with what that begins, in whatever world is above. -/
structure QW (w : World) (any : Bool) (m : List UInt8 → Bool) (p : List UInt8) (v : Value) : Prop where
  mat : ∀ W, Below w.heap.size w W → ∀ l : List UInt8, l.length ≤ 10000 → Calls Tryd.prog 12 #[v, .string (strOf l)] W fun e w' => e = .returned (.bool (m l)) ∧ Below W.heap.size W w'
  pre : ∀ W, Below w.heap.size w W → Calls Tryd.prog 13 #[v] W fun e w' => e = .returned (.string (strOf p)) ∧ Below W.heap.size W w'
theorem QW.keep {w w' : World} {any : Bool} {m : List UInt8 → Bool} {p : List UInt8} {v : Value} (h : QW w any m p v) (hb : Below w.heap.size w w') : QW w' any m p v :=
  ⟨fun W hw => h.mat W (hb.trans (hw.mono hb.size)), fun W hw => h.pre W (hb.trans (hw.mono hb.size))⟩
theorem QW.is {w : World} {any : Bool} {m : List UInt8 → Bool} {p : List UInt8} {v : Value} (h : Hid (QW w any m p v)) (l : List UInt8) (b : Bool) (hm : Hid (m l = b ∧ l.length ≤ 10000)) (W : World) (hw : Below w.heap.size w W) :
    Calls Tryd.prog 12 #[v, .string (strOf l)] W fun e w' => e = .returned (.bool b) ∧ Below W.heap.size W w' := by
  obtain ⟨h1, h2⟩ := hm.out; subst h1; exact h.out.mat W hw l h2
theorem QW.begins {w : World} {any : Bool} {m : List UInt8 → Bool} {p : List UInt8} {v : Value} (h : Hid (QW w any m p v)) (q : List UInt8) (hm : Hid (p = q)) (W : World) (hw : Below w.heap.size w W) :
    Calls Tryd.prog 13 #[v] W fun e w' => e = .returned (.string (strOf q)) ∧ Below W.heap.size W w' := by
  have h1 := hm.out; subst h1; exact h.out.pre W hw
def MakePost (l : List UInt8) (cs mk st sp wd : Bool) (w : World) (x : Ending) (w' : World) : Prop :=
  ∃ (any a b c d e : Bool) (t : List UInt8) (q : Option Addr), x = .returned (.tuple #[.agg #[.bool any, .bool a, .bool b, .bool c, .bool d, .bool e, .string (strOf t), .pointer q], .int .i64 (mkE l sp wd)]) ∧ Below w.heap.size w w' ∧
    any = (decide (mkE l sp wd = 0) && anyQ l sp) ∧ (mkE l sp wd = 0 → QW w' any (matQ l cs mk st sp wd) (preQ l cs mk st sp wd) (.agg #[.bool any, .bool a, .bool b, .bool c, .bool d, .bool e, .string (strOf t), .pointer q]))
theorem make_q (cs mk st sp wd : Bool) (l : List UInt8) (hl : l.length ≤ 10000) (w : World) (hT : UT w) :
    Calls Tryd.prog 9 #[.string (strOf l), .agg #[.bool cs, .bool mk, .bool st, .bool sp, .bool wd]] w (MakePost l cs mk st sp wd w) := by
  cases hv : Lib.validD l with
  | false =>
    have hE : mkE l sp wd = 10 := by unfold mkE; rw [hv]; rfl
    refine (make_utf cs mk st sp wd l (by omega) hv w hT).mono ?_
    rintro e w' ⟨rfl, hb⟩
    exact ⟨false, false, false, false, false, false, [], none, by rw [hE]; rfl, hb, by rw [hE]; rfl, fun h => by rw [hE] at h; cases h⟩
  | true =>
    cases hs : anyQ l sp with
    | true =>
      have hE : mkE l sp wd = 0 := by unfold mkE; rw [hv, if_pos rfl, show (sp && stopB l) = true from hs]; rfl
      have hs' : sp = true ∧ stopB l = true := by unfold anyQ at hs; simpa using hs
      obtain ⟨rfl, hst⟩ := hs'
      refine (make_stop cs mk st wd l (by omega) hv hst w hT).mono ?_
      rintro e w' ⟨rfl, hb⟩
      refine ⟨true, false, false, false, false, false, [], none, by rw [hE]; rfl, hb, by rw [hE, hs]; rfl, fun _ => ⟨fun W hw u hu => ?_, fun W hw => ?_⟩⟩
      · rw [show matQ l cs mk st true wd u = true by unfold matQ; rw [hs]; rfl]
        exact wm_any _ _ _ _ _ _ _ _ W
      · rw [show preQ l cs mk st true wd = [] by unfold preQ; rw [hs]; rfl]
        exact wp_none _ _ _ _ _ _ (.inl rfl) _ _ W
    | false =>
      cases wd with
      | false =>
        have hE : mkE l sp false = 0 := by unfold mkE; rw [hv, if_pos rfl, show (sp && stopB l) = false from hs]; rfl
        have key : Calls Tryd.prog 9 #[.string (strOf l), .agg #[.bool cs, .bool mk, .bool st, .bool sp, .bool false]] w fun e w' => e = .returned (.tuple #[wordV false cs mk st sp false (ofL cs mk st l) none, .int .i64 0]) ∧ Below w.heap.size w w' := by
          cases sp with
          | false => exact make_word0 cs mk st l (by omega) hv w hT
          | true => exact make_word1 cs mk st l (by omega) hv (by unfold anyQ at hs; simpa using hs) w hT
        refine key.mono ?_
        rintro e w' ⟨rfl, hb⟩
        refine ⟨false, cs, mk, st, sp, false, ofL cs mk st l, none, by rw [hE]; rfl, hb, by rw [hE, hs]; rfl, fun _ => ⟨fun W hw u hu => ?_, fun W hw => ?_⟩⟩
        · rw [show matQ l cs mk st sp false u = decide (ofL cs mk st u = ofL cs mk st l) by unfold matQ; rw [hs]; rfl]
          exact wm_text cs mk st sp false _ u (by omega) W (ut_keep (ut_keep hT hb) hw)
        · by_cases hcm : cs = false ∨ mk = false
          · rw [show preQ l cs mk st sp false = [] by unfold preQ; rw [hs]; rcases hcm with rfl | rfl <;> simp]
            exact wp_none _ _ _ _ _ _ (.inr hcm) _ _ W
          · obtain ⟨rfl, rfl⟩ : cs = true ∧ mk = true := by cases cs <;> cases mk <;> simp at hcm ⊢
            rw [show preQ l true true st sp false = if st then [] else ofL true true st l by unfold preQ; rw [hs]; rfl]
            exact wp_text _ _ _ _ W
      | true =>
        by_cases hp : pE l = 0
        · have hE : mkE l sp true = 0 := by unfold mkE; rw [hv, if_pos rfl, show (sp && stopB l) = false from hs]; exact hp
          have key : Calls Tryd.prog 9 #[.string (strOf l), .agg #[.bool cs, .bool mk, .bool st, .bool sp, .bool true]] w fun e w' => ∃ R2, e = .returned (.tuple #[wordV false cs mk st sp true [] (some ⟨R2, 0, none⟩), .int .i64 0]) ∧ GlobW w' R2 (partsQ l cs mk) ∧ Below w.heap.size w w' := by
            cases sp with
            | false => exact make_pat0 cs mk st l (by omega) hv (pP l) (pE_ok hp) w hT
            | true => exact make_pat1 cs mk st l (by omega) hv (by unfold anyQ at hs; simpa using hs) (pP l) (pE_ok hp) w hT
          have hlen : (partsQ l cs mk).length ≤ 200 := by unfold partsQ; rw [List.length_map]; exact (pP_ok l).2
          refine key.mono ?_
          rintro e w' ⟨R2, rfl, hG, hb⟩
          refine ⟨false, cs, mk, st, sp, true, [], some ⟨R2, 0, none⟩, by rw [hE]; rfl, hb, by rw [hE, hs]; rfl, fun _ => ⟨fun W hw u hu => ?_, fun W hw => ?_⟩⟩
          · rw [show matQ l cs mk st sp true u = matchT (partsQ l cs mk) (wholeL cs mk u) by unfold matQ; rw [hs]; rfl]
            exact wm_pat cs mk st sp true _ u R2 _ hlen (mapG_ok _ (pP_ok l).1) hu W (ut_keep (ut_keep hT hb) hw) (hG.keep hw)
          · by_cases hcm : cs = false ∨ mk = false
            · rw [show preQ l cs mk st sp true = [] by unfold preQ; rw [hs]; rcases hcm with rfl | rfl <;> simp]
              exact wp_none _ _ _ _ _ _ (.inr hcm) _ _ W
            · obtain ⟨rfl, rfl⟩ : cs = true ∧ mk = true := by cases cs <;> cases mk <;> simp at hcm ⊢
              rw [show preQ l true true st sp true = prefL (partsQ l true true) by unfold preQ; rw [hs]; rfl]
              exact wp_pat _ _ _ _ R2 _ hlen W (hG.keep hw)
        · have hE : mkE l sp true = pE l := by unfold mkE; rw [hv, if_pos rfl, show (sp && stopB l) = false from hs]; rfl
          have hc : (pE l == 0) = false := by simpa using hp
          have key : Calls Tryd.prog 9 #[.string (strOf l), .agg #[.bool cs, .bool mk, .bool st, .bool sp, .bool true]] w fun e w' => e = .returned (.tuple #[noWord, .int .i64 (pE l)]) ∧ Below w.heap.size w w' := by
            cases sp with
            | false => exact make_bad0 cs mk st l (by omega) hv (pE l) (pE_bad hp) hc w hT
            | true => exact make_bad1 cs mk st l (by omega) hv (by unfold anyQ at hs; simpa using hs) (pE l) (pE_bad hp) hc w hT
          refine key.mono ?_
          rintro e w' ⟨rfl, hb⟩
          exact ⟨false, false, false, false, false, false, [], none, by rw [hE]; rfl, hb, by rw [hE, decide_eq_false hp]; rfl, fun h => absurd (by rw [← hE]; exact h) hp⟩
/-- A word's eight cells. -/
def At8 (W : World) (B : Nat) (v0 v1 v2 v3 v4 v5 v6 v7 : Value) : Prop :=
  W.cell? ⟨B, 0, none⟩ = some v0 ∧ W.cell? ⟨B, 1, none⟩ = some v1 ∧ W.cell? ⟨B, 2, none⟩ = some v2 ∧ W.cell? ⟨B, 3, none⟩ = some v3 ∧ W.cell? ⟨B, 4, none⟩ = some v4 ∧ W.cell? ⟨B, 5, none⟩ = some v5 ∧ W.cell? ⟨B, 6, none⟩ = some v6 ∧ W.cell? ⟨B, 7, none⟩ = some v7
theorem At8.keep {w w' : World} {B : Nat} {v0 v1 v2 v3 v4 v5 v6 v7 : Value} (h : At8 w B v0 v1 v2 v3 v4 v5 v6 v7) (hb : Below w.heap.size w w') : At8 w' B v0 v1 v2 v3 v4 v5 v6 v7 :=
  ⟨cells_below hb h.1, cells_below hb h.2.1, cells_below hb h.2.2.1, cells_below hb h.2.2.2.1, cells_below hb h.2.2.2.2.1, cells_below hb h.2.2.2.2.2.1, cells_below hb h.2.2.2.2.2.2.1, cells_below hb h.2.2.2.2.2.2.2⟩
theorem At8.new (w : World) (v0 v1 v2 v3 v4 v5 v6 v7 : Value) (t : TypeId) : At8 (w.alloc (.cells #[v0, v1, v2, v3, v4, v5, v6, v7] t)) w.heap.size v0 v1 v2 v3 v4 v5 v6 v7 :=
  ⟨opt_cell w _ _ _ 0 _ rfl (Below.refl _ _), opt_cell w _ _ _ 1 _ rfl (Below.refl _ _), opt_cell w _ _ _ 2 _ rfl (Below.refl _ _), opt_cell w _ _ _ 3 _ rfl (Below.refl _ _), opt_cell w _ _ _ 4 _ rfl (Below.refl _ _), opt_cell w _ _ _ 5 _ rfl (Below.refl _ _), opt_cell w _ _ _ 6 _ rfl (Below.refl _ _), opt_cell w _ _ _ 7 _ rfl (Below.refl _ _)⟩
/-- Options of which one is stored anew. -/
theorem OptAt.frz (w : World) (cs mk st sp wd : Bool) {W : World} (hb : Below (w.alloc (.cells #[.bool cs, .bool mk, .bool st, .bool sp, .bool wd] 23)).heap.size (w.alloc (.cells #[.bool cs, .bool mk, .bool st, .bool sp, .bool wd] 23)) W) (i : Nat) : W.frozen? ⟨w.heap.size, i, none⟩ = false := by
  rw [hb.frozen (p := ⟨w.heap.size, i, none⟩) (by simp)]
  exact World.frozen?_alloc_new w _ _ i
theorem OptAt.set4 {w : World} {b : Nat} {cs mk st sp wd : Bool} (h : OptAt w b cs mk st sp wd) (x : Bool) : OptAt (w.setCell ⟨b, 4, none⟩ (.bool x)) b cs mk st sp x :=
  ⟨by rw [cell_setR _ _ 4 0 _ (by omega)]; exact h.1, by rw [cell_setR _ _ 4 1 _ (by omega)]; exact h.2.1, by rw [cell_setR _ _ 4 2 _ (by omega)]; exact h.2.2.1, by rw [cell_setR _ _ 4 3 _ (by omega)]; exact h.2.2.2.1, World.cell?_setCell_same _ _ _ (by rw [h.2.2.2.2])⟩
theorem OptAt.set2 {w : World} {b : Nat} {cs mk st sp wd : Bool} (h : OptAt w b cs mk st sp wd) (x : Bool) : OptAt (w.setCell ⟨b, 2, none⟩ (.bool x)) b cs mk x sp wd :=
  ⟨by rw [cell_setR _ _ 2 0 _ (by omega)]; exact h.1, by rw [cell_setR _ _ 2 1 _ (by omega)]; exact h.2.1, World.cell?_setCell_same _ _ _ (by rw [h.2.2.1]), by rw [cell_setR _ _ 2 3 _ (by omega)]; exact h.2.2.2.1, by rw [cell_setR _ _ 2 4 _ (by omega)]; exact h.2.2.2.2⟩
end Go.Proofs.YtbchmfkdhaggbaaDoor
