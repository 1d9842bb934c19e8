/- AlQ, ApR, DcHd, DcMt, DcMl in one text. -/
import Derived.Test.YtjeccmmhmdgdgaaGreatDoorAlQw
import Derived.Test.YtjeccmmhmdgdgaaGreatDoorChecked
import Derived.Test.YtjeccmmhmdgdgaaGreatDoorCs
import Derived.OwnWalk
import Derived.WalkKit
import Derived.WalkSpells
import Derived.LoopTactic
import Derived.Outline
import Derived.Lib.Hide
import Derived.Laws.Cover1
import Derived.Test.YtjeccmmhmdgdgaaGreatDoorDcPf
/- Make, by what its word matches and begins with. -/
namespace Go.Proofs.YtjeccmmhmdgdgaaGreatDoor
open Go.RowKit
set_option maxRecDepth 100000

theorem parse_err : ∀ (f : Nat) (t : List UInt8) (acc : List GP) (c : Int), parseL f t acc = .error c → c = 3 ∨ c = 20
  | 0, t, acc, c, h => by rw [parseL] at h; cases h
  | f + 1, t, acc, c, h => by
    rw [parseL] at h
    by_cases he : t = []
    · rw [if_pos he] at h; cases h
    · rw [if_neg he] at h
      split at h
      · cases h; exact .inl rfl
      · split at h
        · cases h; exact .inr rfl
        · exact parse_err f _ _ c h
/-- The error of a pattern; its parts. -/
def pE (l : List UInt8) : Int := match parseL l.length l [] with | .ok _ => 0 | .error c => c
def pP (l : List UInt8) : List GP := match parseL l.length l [] with | .ok ps => ps | .error _ => []
theorem pE_ok {l : List UInt8} (h : pE l = 0) : parseL l.length l [] = .ok (pP l) := by
  unfold pE at h; unfold pP
  cases hp : parseL l.length l [] with
  | ok ps => rfl
  | error c => rw [hp] at h; simp only at h; rcases parse_err _ _ _ _ hp with e | e <;> omega
theorem pE_bad {l : List UInt8} (h : pE l ≠ 0) : parseL l.length l [] = .error (pE l) := by
  unfold pE at h ⊢
  cases hp : parseL l.length l [] with
  | ok ps => rw [hp] at h; exact absurd rfl h
  | error c => rfl
theorem pP_sg (l : List UInt8) : sgGP (pP l) := by
  unfold pP
  cases hp : parseL l.length l [] with
  | ok ps => exact sg_of_parse hp
  | error c => intro p hp; simp at hp
theorem pP_ok (l : List UInt8) : okGP (pP l) ∧ (pP l).length ≤ 200 := by
  unfold pP
  cases hp : parseL l.length l [] with
  | ok ps => exact ok_of_parse hp
  | error c => exact ⟨fun p hp => by simp at hp, by simp⟩
/-- What Make's error is; which words match; with what they begin. -/
def mkE (l : List UInt8) (sp wd : Bool) : Int := if Lib.validD l then (if sp && stopB l then 0 else if wd then pE l else 0) else 10
def anyQ (l : List UInt8) (sp : Bool) : Bool := sp && stopB l
def partsQ (l : List UInt8) (cs mk : Bool) : List GP := (pP l).map (mapG (signO cs mk))
noncomputable def matQ (l : List UInt8) (cs mk st sp wd : Bool) (u : List UInt8) : Bool := if anyQ l sp then true else if wd then matchT (partsQ l cs mk) (wholeL cs mk u) else decide (ofL cs mk st u = ofL cs mk st l)
def preQ (l : List UInt8) (cs mk st sp wd : Bool) : List UInt8 := if anyQ l sp || (!cs || !mk) then [] else if wd then prefL (partsQ l cs mk) else if st then [] else ofL cs mk st l
/-- A word of a question: what it matches, with what that begins, in whatever world is above. -/
structure QW (w : World) (any : Bool) (m : List UInt8 → Bool) (p : List UInt8) (v : Value) : Prop where
  mat : ∀ W, Below w.heap.size w W → ∀ l : List UInt8, l.length ≤ 10000 → Calls Tryz.prog 10 #[v, .string (strOf l)] W fun e w' => e = .returned (.bool (m l)) ∧ Below W.heap.size W w'
  pre : ∀ W, Below w.heap.size w W → Calls Tryz.prog 21 #[v] W fun e w' => e = .returned (.string (strOf p)) ∧ Below W.heap.size W w'
theorem QW.keep {w w' : World} {any : Bool} {m : List UInt8 → Bool} {p : List UInt8} {v : Value} (h : QW w any m p v) (hb : Below w.heap.size w w') : QW w' any m p v :=
  ⟨fun W hw => h.mat W (hb.trans (hw.mono hb.size)), fun W hw => h.pre W (hb.trans (hw.mono hb.size))⟩
theorem QW.is {w : World} {any : Bool} {m : List UInt8 → Bool} {p : List UInt8} {v : Value} (h : Hid (QW w any m p v)) (l : List UInt8) (b : Bool) (hm : Hid (m l = b ∧ l.length ≤ 10000)) (W : World) (hw : Below w.heap.size w W) :
    Calls Tryz.prog 10 #[v, .string (strOf l)] W fun e w' => e = .returned (.bool b) ∧ Below W.heap.size W w' := by
  obtain ⟨h1, h2⟩ := hm.out; subst h1; exact h.out.mat W hw l h2
theorem QW.begins {w : World} {any : Bool} {m : List UInt8 → Bool} {p : List UInt8} {v : Value} (h : Hid (QW w any m p v)) (q : List UInt8) (hm : Hid (p = q)) (W : World) (hw : Below w.heap.size w W) :
    Calls Tryz.prog 21 #[v] W fun e w' => e = .returned (.string (strOf q)) ∧ Below W.heap.size W w' := by
  have h1 := hm.out; subst h1; exact h.out.pre W hw
def MakePost (l : List UInt8) (cs mk st sp wd : Bool) (w : World) (x : Ending) (w' : World) : Prop :=
  ∃ (any a b c d e : Bool) (t : List UInt8) (q : Option Addr), x = .returned (.tuple #[.agg #[.bool any, .bool a, .bool b, .bool c, .bool d, .bool e, .string (strOf t), .pointer q], .int .i64 (mkE l sp wd)]) ∧ Below w.heap.size w w' ∧
    any = (decide (mkE l sp wd = 0) && anyQ l sp) ∧ (mkE l sp wd = 0 → QW w' any (matQ l cs mk st sp wd) (preQ l cs mk st sp wd) (.agg #[.bool any, .bool a, .bool b, .bool c, .bool d, .bool e, .string (strOf t), .pointer q]))
theorem make_q (cs mk st sp wd : Bool) (l : List UInt8) (hl : l.length ≤ 10000) (w : World) (hT : UT w) :
    Calls Tryz.prog 6 #[.string (strOf l), .agg #[.bool cs, .bool mk, .bool st, .bool sp, .bool wd]] w (MakePost l cs mk st sp wd w) := by
  cases hv : Lib.validD l with
  | false =>
    have hE : mkE l sp wd = 10 := by unfold mkE; rw [hv]; rfl
    refine (make_utf cs mk st sp wd l (by omega) hv w hT).mono ?_
    rintro e w' ⟨rfl, hb⟩
    exact ⟨false, false, false, false, false, false, [], none, by rw [hE]; rfl, hb, by rw [hE]; rfl, fun h => by rw [hE] at h; cases h⟩
  | true =>
    cases hs : anyQ l sp with
    | true =>
      have hE : mkE l sp wd = 0 := by unfold mkE; rw [hv, if_pos rfl, show (sp && stopB l) = true from hs]; rfl
      have hs' : sp = true ∧ stopB l = true := by unfold anyQ at hs; simpa using hs
      obtain ⟨rfl, hst⟩ := hs'
      refine (make_stop cs mk st wd l (by omega) hv hst w hT).mono ?_
      rintro e w' ⟨rfl, hb⟩
      refine ⟨true, false, false, false, false, false, [], none, by rw [hE]; rfl, hb, by rw [hE, hs]; rfl, fun _ => ⟨fun W hw u hu => ?_, fun W hw => ?_⟩⟩
      · rw [show matQ l cs mk st true wd u = true by unfold matQ; rw [hs]; rfl]
        exact wm_any _ _ _ _ _ _ _ _ W
      · rw [show preQ l cs mk st true wd = [] by unfold preQ; rw [hs]; rfl]
        exact wp_none _ _ _ _ _ _ (.inl rfl) _ _ W
    | false =>
      cases wd with
      | false =>
        have hE : mkE l sp false = 0 := by unfold mkE; rw [hv, if_pos rfl, show (sp && stopB l) = false from hs]; rfl
        have key : Calls Tryz.prog 6 #[.string (strOf l), .agg #[.bool cs, .bool mk, .bool st, .bool sp, .bool false]] w fun e w' => e = .returned (.tuple #[wordV false cs mk st sp false (ofL cs mk st l) none, .int .i64 0]) ∧ Below w.heap.size w w' := by
          cases sp with
          | false => exact make_word0 cs mk st l (by omega) hv w hT
          | true => exact make_word1 cs mk st l (by omega) hv (by unfold anyQ at hs; simpa using hs) w hT
        refine key.mono ?_
        rintro e w' ⟨rfl, hb⟩
        refine ⟨false, cs, mk, st, sp, false, ofL cs mk st l, none, by rw [hE]; rfl, hb, by rw [hE, hs]; rfl, fun _ => ⟨fun W hw u hu => ?_, fun W hw => ?_⟩⟩
        · rw [show matQ l cs mk st sp false u = decide (ofL cs mk st u = ofL cs mk st l) by unfold matQ; rw [hs]; rfl]
          exact wm_text cs mk st sp false _ u (by omega) W (ut_keep (ut_keep hT hb) hw)
        · by_cases hcm : cs = false ∨ mk = false
          · rw [show preQ l cs mk st sp false = [] by unfold preQ; rw [hs]; rcases hcm with rfl | rfl <;> simp]
            exact wp_none _ _ _ _ _ _ (.inr hcm) _ _ W
          · obtain ⟨rfl, rfl⟩ : cs = true ∧ mk = true := by cases cs <;> cases mk <;> simp at hcm ⊢
            rw [show preQ l true true st sp false = if st then [] else ofL true true st l by unfold preQ; rw [hs]; rfl]
            exact wp_text _ _ _ _ W
      | true =>
        by_cases hp : pE l = 0
        · have hE : mkE l sp true = 0 := by unfold mkE; rw [hv, if_pos rfl, show (sp && stopB l) = false from hs]; exact hp
          have key : Calls Tryz.prog 6 #[.string (strOf l), .agg #[.bool cs, .bool mk, .bool st, .bool sp, .bool true]] w fun e w' => ∃ R2, e = .returned (.tuple #[wordV false cs mk st sp true [] (some ⟨R2, 0, none⟩), .int .i64 0]) ∧ GlobW w' R2 (partsQ l cs mk) ∧ Below w.heap.size w w' := by
            cases sp with
            | false => exact make_pat0 cs mk st l (by omega) hv (pP l) (pE_ok hp) w hT
            | true => exact make_pat1 cs mk st l (by omega) hv (by unfold anyQ at hs; simpa using hs) (pP l) (pE_ok hp) w hT
          have hlen : (partsQ l cs mk).length ≤ 200 := by unfold partsQ; rw [List.length_map]; exact (pP_ok l).2
          refine key.mono ?_
          rintro e w' ⟨R2, rfl, hG, hb⟩
          refine ⟨false, cs, mk, st, sp, true, [], some ⟨R2, 0, none⟩, by rw [hE]; rfl, hb, by rw [hE, hs]; rfl, fun _ => ⟨fun W hw u hu => ?_, fun W hw => ?_⟩⟩
          · rw [show matQ l cs mk st sp true u = matchT (partsQ l cs mk) (wholeL cs mk u) by unfold matQ; rw [hs]; rfl]
            exact wm_pat cs mk st sp true _ u R2 _ hlen (mapG_ok _ (pP_ok l).1) hu W (ut_keep (ut_keep hT hb) hw) (hG.keep hw)
          · by_cases hcm : cs = false ∨ mk = false
            · rw [show preQ l cs mk st sp true = [] by unfold preQ; rw [hs]; rcases hcm with rfl | rfl <;> simp]
              exact wp_none _ _ _ _ _ _ (.inr hcm) _ _ W
            · obtain ⟨rfl, rfl⟩ : cs = true ∧ mk = true := by cases cs <;> cases mk <;> simp at hcm ⊢
              rw [show preQ l true true st sp true = prefL (partsQ l true true) by unfold preQ; rw [hs]; rfl]
              exact wp_pat _ _ _ _ R2 _ hlen W (hG.keep hw)
        · have hE : mkE l sp true = pE l := by unfold mkE; rw [hv, if_pos rfl, show (sp && stopB l) = false from hs]; rfl
          have hc : (pE l == 0) = false := by simpa using hp
          have key : Calls Tryz.prog 6 #[.string (strOf l), .agg #[.bool cs, .bool mk, .bool st, .bool sp, .bool true]] w fun e w' => e = .returned (.tuple #[noWord, .int .i64 (pE l)]) ∧ Below w.heap.size w w' := by
            cases sp with
            | false => exact make_bad0 cs mk st l (by omega) hv (pE l) (pE_bad hp) hc w hT
            | true => exact make_bad1 cs mk st l (by omega) hv (by unfold anyQ at hs; simpa using hs) (pE l) (pE_bad hp) hc w hT
          refine key.mono ?_
          rintro e w' ⟨rfl, hb⟩
          exact ⟨false, false, false, false, false, false, [], none, by rw [hE]; rfl, hb, by rw [hE, decide_eq_false hp]; rfl, fun h => absurd (by rw [← hE]; exact h) hp⟩
/-- A word's eight cells. -/
def At8 (W : World) (B : Nat) (v0 v1 v2 v3 v4 v5 v6 v7 : Value) : Prop :=
  W.cell? ⟨B, 0, none⟩ = some v0 ∧ W.cell? ⟨B, 1, none⟩ = some v1 ∧ W.cell? ⟨B, 2, none⟩ = some v2 ∧ W.cell? ⟨B, 3, none⟩ = some v3 ∧ W.cell? ⟨B, 4, none⟩ = some v4 ∧ W.cell? ⟨B, 5, none⟩ = some v5 ∧ W.cell? ⟨B, 6, none⟩ = some v6 ∧ W.cell? ⟨B, 7, none⟩ = some v7
theorem At8.keep {w w' : World} {B : Nat} {v0 v1 v2 v3 v4 v5 v6 v7 : Value} (h : At8 w B v0 v1 v2 v3 v4 v5 v6 v7) (hb : Below w.heap.size w w') : At8 w' B v0 v1 v2 v3 v4 v5 v6 v7 :=
  ⟨cells_below hb h.1, cells_below hb h.2.1, cells_below hb h.2.2.1, cells_below hb h.2.2.2.1, cells_below hb h.2.2.2.2.1, cells_below hb h.2.2.2.2.2.1, cells_below hb h.2.2.2.2.2.2.1, cells_below hb h.2.2.2.2.2.2.2⟩
theorem At8.new (w : World) (v0 v1 v2 v3 v4 v5 v6 v7 : Value) (t : TypeId) : At8 (w.alloc (.cells #[v0, v1, v2, v3, v4, v5, v6, v7] t)) w.heap.size v0 v1 v2 v3 v4 v5 v6 v7 :=
  ⟨opt_cell w _ _ _ 0 _ rfl (Below.refl _ _), opt_cell w _ _ _ 1 _ rfl (Below.refl _ _), opt_cell w _ _ _ 2 _ rfl (Below.refl _ _), opt_cell w _ _ _ 3 _ rfl (Below.refl _ _), opt_cell w _ _ _ 4 _ rfl (Below.refl _ _), opt_cell w _ _ _ 5 _ rfl (Below.refl _ _), opt_cell w _ _ _ 6 _ rfl (Below.refl _ _), opt_cell w _ _ _ 7 _ rfl (Below.refl _ _)⟩
/-- Options of which one is stored anew. -/
theorem OptAt.frz (w : World) (cs mk st sp wd : Bool) {W : World} (hb : Below (w.alloc (.cells #[.bool cs, .bool mk, .bool st, .bool sp, .bool wd] 24)).heap.size (w.alloc (.cells #[.bool cs, .bool mk, .bool st, .bool sp, .bool wd] 24)) W) (i : Nat) : W.frozen? ⟨w.heap.size, i, none⟩ = false := by
  rw [hb.frozen (p := ⟨w.heap.size, i, none⟩) (by simp)]
  exact World.frozen?_alloc_new w _ _ i
theorem OptAt.set4 {w : World} {b : Nat} {cs mk st sp wd : Bool} (h : OptAt w b cs mk st sp wd) (x : Bool) : OptAt (w.setCell ⟨b, 4, none⟩ (.bool x)) b cs mk st sp x :=
  ⟨by rw [cell_setR _ _ 4 0 _ (by omega)]; exact h.1, by rw [cell_setR _ _ 4 1 _ (by omega)]; exact h.2.1, by rw [cell_setR _ _ 4 2 _ (by omega)]; exact h.2.2.1, by rw [cell_setR _ _ 4 3 _ (by omega)]; exact h.2.2.2.1, World.cell?_setCell_same _ _ _ (by rw [h.2.2.2.2])⟩
theorem OptAt.set2 {w : World} {b : Nat} {cs mk st sp wd : Bool} (h : OptAt w b cs mk st sp wd) (x : Bool) : OptAt (w.setCell ⟨b, 2, none⟩ (.bool x)) b cs mk x sp wd :=
  ⟨by rw [cell_setR _ _ 2 0 _ (by omega)]; exact h.1, by rw [cell_setR _ _ 2 1 _ (by omega)]; exact h.2.1, World.cell?_setCell_same _ _ _ (by rw [h.2.2.1]), by rw [cell_setR _ _ 2 3 _ (by omega)]; exact h.2.2.2.1, by rw [cell_setR _ _ 2 4 _ (by omega)]; exact h.2.2.2.2⟩
end Go.Proofs.YtjeccmmhmdgdgaaGreatDoor
/- append onto a row of integers that the call owns. -/
namespace Go.Proofs.YtjeccmmhmdgdgaaGreatDoor
open Go.RowKit
set_option maxRecDepth 100000

theorem infoIntR : (Tryz.prog.info? 3).map (fun i => (i.zero, i.size, i.bytes)) = some (some (.int .i64 0), 1, 8) := by kernel_rfl
/-- What append wants to know of an element's type. -/
structure El (tS tE : TypeId) (z : Value) (k by_ : Nat) : Prop where
  hu : Tryz.prog.underlying tS = some (.slice tE)
  hi : (Tryz.prog.info? tE).map (fun i => (i.zero, i.size, i.bytes)) = some (some z, k, by_)
  hz : z.cells.size = k
  hk : 0 < k
  hb : by_ ≤ 64
theorem elInt : El 36 3 (.int .i64 0) 1 8 := ⟨Tryz.underlying36, infoIntR, rfl, by decide, by decide⟩
theorem run_appendR {tS tE : TypeId} {z : Value} {k by_ : Nat} (E : El tS tE z k by_) (w : World) (ty : TypeId) (base : Nat) (v : Value) (n : Nat) (xs : List Value) (hown : w.ownsRow base tE k v n xs) (A : Option Addr) (m c B : Nat) (news : List Value) (hnl : news.length = m * k) (hone : ∀ u ∈ news, u.oneCell' = true) (hm : CS w B A news) (hlen : n + m ≤ 1000000) (hbase : base ≤ w.heap.size) :
    ∃ v' w', (Builtin.append_ #[tS, tS] ty #[v, .slice A m c]).run Tryz.prog w = .ok v' w' ∧ w'.ownsRow base tE k v' (n + m) (xs ++ news) ∧ w.grownBy w' v.ownBlock ∧ (v'.ownBlock = v.ownBlock ∨ v'.ownBlock = some w.heap.size) := by
  obtain ⟨i0, hi0, hz0, hz1, hz2⟩ := info_parts E.hi
  have hb := E.hb
  have key : ∀ a : Addr, (∀ j u, news[j]? = some u → w.cell? (a.add j) = some u) → ∃ v' w', (Builtin.append_ #[tS, tS] ty #[v, .slice (some a) m c]).run Tryz.prog w = .ok v' w' ∧ w'.ownsRow base tE k v' (n + m) (xs ++ news) ∧ w.grownBy w' v.ownBlock ∧ (v'.ownBlock = v.ownBlock ∨ v'.ownBlock = some w.heap.size) := fun a ha => by
    obtain ⟨v', w', hr, h2, h3, _, h5⟩ := run_append_own_at (P := Tryz.prog) w base tS ty tE i0 z k by_ E.hu hi0 hz0 hz1 hz2 E.hz E.hk v n xs hown a m c news hnl ha hone (by unfold maxLen; omega) (by have : (n + m) * by_ ≤ 1000000 * 64 := Nat.mul_le_mul hlen hb; omega) hbase
    exact ⟨v', w', hr, h2, h3, h5⟩
  rcases Nat.eq_zero_or_pos m with h0 | h0
  · subst h0
    obtain rfl := List.eq_nil_of_length_eq_zero (by simpa using hnl)
    cases A with
    | some a => exact key a (fun j u hu => by simp at hu)
    | none =>
      refine ⟨v, w, ?_, by simpa using hown, ⟨rfl, rfl, rfl, Nat.le_refl _, fun _ _ _ => rfl⟩, .inl rfl⟩
      rcases hown.2 with ⟨rfl, _⟩ | ⟨g, cap, cur, rfl, _, _, hnc, _⟩
      · simp [Builtin.append_, run_underlying E.hu, sizeOf, typeInfo, hi0, Builtin.lenOf, Builtin.firstCells]
      · simp [Builtin.append_, run_underlying E.hu, sizeOf, typeInfo, hi0, Builtin.lenOf, Builtin.firstCells, hnc, storeCells]
  · obtain ⟨b, o, rfl, _, hc⟩ := hm (by rw [hnl]; exact Nat.mul_pos h0 E.hk)
    exact key ⟨b, o, none⟩ (fun j u hu => by rw [add_addr]; exact hc j u hu)
theorem wpList_appR {ops : Array Oper} {rest : List Oper} {o : Oper} {a : Act} {Q : Exit → Act → World → Prop} {tS tE : TypeId} {z : Value} {k by_ : Nat} (E : El tS tE z k by_) (w : World) (hgd : o.guard = none) (s x : Operand)
    (ho : o.op = .call { callee := .builtin .append, args := #[s, x], argTypes := #[tS, tS] })
    (base : Nat) (v : Value) (n : Nat) (xs : List Value) (hs : a.eval s = v) (hown : w.ownsRow base tE k v n xs) (A : Option Addr) (m c B : Nat) (news : List Value) (hx : a.eval x = .slice A m c) (hnl : news.length = m * k) (hone : ∀ u ∈ news, u.oneCell' = true) (hm : CS w B A news)
    (N : Nat) (hN : n + m = N) (hlen : N ≤ 1000000) (hbase : base ≤ w.heap.size)
    (h : ∀ v' w', w'.ownsRow base tE k v' N (xs ++ news) → w.grownBy w' v.ownBlock → (v'.ownBlock = v.ownBlock ∨ v'.ownBlock = some w.heap.size) → wpList Tryz.prog ops Q rest (a.put o.dst v') w') : wpList Tryz.prog ops Q (o :: rest) a w := by
  subst hN
  refine wpList_plain hgd fun K hK => ?_
  obtain ⟨v', w', hr, h2, h3, h4⟩ := run_appendR E w o.type base v n xs hown A m c B news hnl hone hm hlen hbase
  unfold Oper.wp execOp
  simp only [ho, resolve, invoke, builtin, Sem.run_bind, Sem.run_pure, Result.andThen_ok, List.map_toArray, List.map_cons, List.map_nil, hs, hx, hr]
  exact hK _ _ (h v' w' h2 h3 h4)
theorem step_appR {ops : Array Oper} {o : Oper} {a : Act} {K : Act → World → Prop} {Q : Exit → Act → World → Prop} {F : Prop} {tS tE : TypeId} {z : Value} {k by_ : Nat} (E : El tS tE z k by_) (w : World) (hgd : o.guard = none) (s x : Operand)
    (ho : o.op = .call { callee := .builtin .append, args := #[s, x], argTypes := #[tS, tS] })
    (base : Nat) (v : Value) (n : Nat) (xs : List Value) (hs : a.eval s = v) (hown : w.ownsRow base tE k v n xs) (A : Option Addr) (m c B : Nat) (news : List Value) (hx : a.eval x = .slice A m c) (hnl : news.length = m * k) (hone : ∀ u ∈ news, u.oneCell' = true) (hm : CS w B A news)
    (N : Nat) (hN : n + m = N) (hlen : N ≤ 1000000) (hbase : base ≤ w.heap.size)
    (h : ∀ v' w', w'.ownsRow base tE k v' N (xs ++ news) → w.grownBy w' v.ownBlock → (v'.ownBlock = v.ownBlock ∨ v'.ownBlock = some w.heap.size) → K (a.put o.dst v') w') :
    if Region.wanted o (yielded ops a.tmps) = true then Oper.wp Tryz.prog o a w K Q else F := by
  subst hN
  have hw : Region.wanted o (yielded ops a.tmps) = true := by simp [Region.wanted, hgd]
  rw [if_pos hw]
  obtain ⟨v', w', hr, h2, h3, h4⟩ := run_appendR E w o.type base v n xs hown A m c B news hnl hone hm hlen hbase
  unfold Oper.wp execOp
  simp only [ho, resolve, invoke, builtin, Sem.run_bind, Sem.run_pure, Result.andThen_ok, List.map_toArray, List.map_cons, List.map_nil, hs, hx, hr]
  exact h v' w' h2 h3 h4
end Go.Proofs.YtjeccmmhmdgdgaaGreatDoor
/- few, head of the laws on package dict. -/
namespace Go.Proofs.YtjeccmmhmdgdgaaGreatDoor.Dc
open Go.RowKit Go.Sort
set_option maxRecDepth 100000

def fewB (xs : List B8) : Bool := xs.all (fun x => decide (x.length ≤ 40)) && decide (xs.length ≤ 60)
theorem few_no (xs : List B8) (k : Nat) (hk : k < xs.length) (h : ¬ xs[k].length ≤ 40) : fewB xs = false := by
  unfold fewB
  rw [show (xs.all fun x => decide (x.length ≤ 40)) = false from (by
    rw [List.all_eq_false]
    exact ⟨xs[k], List.getElem_mem hk, by simpa using h⟩)]
  rfl
theorem few_yes (xs : List B8) (h : ∀ j (hj : j < xs.length), xs[j].length ≤ 40) : fewB xs = decide (xs.length ≤ 60) := by
  unfold fewB
  rw [show (xs.all fun x => decide (x.length ≤ 40)) = true from (by
    rw [List.all_eq_true]
    intro x hx
    obtain ⟨j, hj, rfl⟩ := List.mem_iff_getElem.1 hx
    simpa using h j hj)]
  rfl
theorem few_true {xs : List B8} (h : fewB xs = true) : xs.length ≤ 60 ∧ ∀ x ∈ xs, x.length ≤ 40 := by
  unfold fewB at h
  simp only [Bool.and_eq_true, List.all_eq_true, decide_eq_true_eq] at h
  exact ⟨h.2, h.1⟩
set_option maxHeartbeats 2000000 in
theorem few_any (A : Option Addr) (n c : Nat) (xs : List B8) (hn : Hid (n = xs.length)) (hnm : n ≤ 9223372036854775807) (w : World) (hI : CS w w.heap.size A (xs.map encStr)) :
    Calls Tryz.prog 5 #[.slice A n c] w fun e w' => e = .returned (.bool (fewB xs)) ∧ w = w' := by
  have HCS := Lib.hid hI
  clear hI
  go_enter Tryz.func5, Tryz.ntmps5
  go_wp2_with fail
  go_loop [7] (fun i => ∃ k : Nat, k ≤ n ∧ i = .int .i64 k ∧ Hid (∀ j (hj : j < xs.length), j < k → xs[j].length ≤ 40)) (fun i => n - (intOf i).toNat)
  case atStart => exact ⟨0, Nat.zero_le _, rfl, fun j _ h => absurd h (Nat.not_lt_zero _)⟩
  case round =>
    obtain ⟨k, hk, rfl, HI⟩ := hrel
    by_cases hlt : k < n
    · have hkx : k < xs.length := by rw [← hn.out]; exact hlt
      obtain ⟨b, o, rfl, hb, hc⟩ := HCS.out (by rw [List.length_map]; omega)
      have hcx := hc k _ (enc_cells_at xs k hkx)
      obtain ⟨ss, hss⟩ : ∃ ss, ss = (⟨(xs[k]).toArray⟩ : ByteArray) := ⟨_, rfl⟩
      have hcx' : w.cell? ⟨b, o + k, none⟩ = some (.string ss) := by rw [hss]; exact hcx
      obtain ⟨m, hm⟩ : ∃ m, m = (xs[k]).length := ⟨_, rfl⟩
      have hsz : ss.size = m := by rw [hss, hm]; simp [ByteArray.size]
      have HM := Lib.hid hm
      clear hcx hc hss hm
      by_cases h40 : m ≤ 40
      · have h40' : (m : Int) ≤ 40 := by omega
        go_wp2_with fail
        go_round
        case rel => exact ⟨k + 1, by omega, by go_num, fun j hj h => by
          rcases Nat.lt_or_ge j k with g | g
          · exact HI.out j hj g
          · obtain rfl : j = k := by omega
            rw [← HM.out]; exact h40⟩
        case measure => simp [intOf]; omega
      · have h40' : (40 : Int) < (m : Int) := by omega
        have HF : Hid (fewB xs = false) := few_no xs k hkx (by rw [← HM.out]; exact h40)
        go_wp2_with fail
        go_ret
        exact ⟨by rw [HF.out]; rfl, rfl⟩
    · have HF : Hid (fewB xs = decide (n ≤ 60)) := by show _ = _; rw [hn.out]; exact few_yes xs fun j hj => HI.out j hj (by have := hn.out; omega)
      by_cases h60 : n ≤ 60
      · have h60' : (n : Int) ≤ 60 := by omega
        go_wp2_with fail
        go_ret
        exact ⟨by rw [HF.out, decide_eq_true h60]; rfl, rfl⟩
      · have h60' : ¬ (n : Int) ≤ 60 := by omega
        go_wp2_with fail
        go_ret
        exact ⟨by rw [HF.out, decide_eq_false h60]; rfl, rfl⟩
theorem few_is (A : Option Addr) (n c : Nat) (xs : List B8) (q : Bool) (h : Hid (n = xs.length ∧ fewB xs = q)) (hnm : n ≤ 9223372036854775807) (w : World) (hI : CS w w.heap.size A (xs.map encStr)) :
    Calls Tryz.prog 5 #[.slice A n c] w fun e w' => e = .returned (.bool q) ∧ w = w' := by
  obtain ⟨h1, h2⟩ := h.out
  rw [← h2]
  exact few_any A n c xs h1 hnm w hI
theorem make_is (A : Option Addr) (n cap : Nat) (xs ds : List B8) (h : Hid (n = xs.length ∧ xs.length ≤ 1000 ∧ (∀ x ∈ xs, x.length ≤ 1000) ∧ dct xs = ds)) (w : World) (hI : CS w w.heap.size A (xs.map encStr)) :
    Calls Tryz.prog 7 #[.slice A n cap] w fun e w' => ∃ A2 n2 c2, e = .returned (.agg #[.slice A2 n2 c2]) ∧ DT w' A2 n2 c2 ds ∧ Below w.heap.size w w' := by
  obtain ⟨h1, h2, h3, h4⟩ := h.out
  subst h1 h4
  refine (make_any A cap xs h2 h3 w hI).mono ?_
  rintro e w' ⟨v, rfl, hr, hb⟩
  obtain ⟨A2, c2, rfl, k1, k2, k3, _⟩ := own_form hr
  exact ⟨A2, _, c2, rfl, ⟨rfl, k1, k2, by have := dct_len xs; omega, k3⟩, hb⟩
theorem prefix_is (A : Option Addr) (n c : Nat) (ws : List B8) (p : B8) (m t : Nat) (h : Hid (ws.Pairwise (· < ·) ∧ cnt ws p = m ∧ cnt ws p + pcnt ws p = t)) (w : World) (hD : DT w A n c ws) :
    Calls Tryz.prog 12 #[.agg #[.slice A n c], .string ⟨p.toArray⟩] w fun e w' => e = .returned (.tuple #[.int .i64 (m : Nat), .int .i64 (t : Nat)]) ∧ Below w.heap.size w w' := by
  obtain ⟨h1, h2, h3⟩ := h.out
  have := prefix_any A n c ws h1 p w hD
  rw [h3, h2] at this
  exact this
theorem find_is (A : Option Addr) (n c : Nat) (ws : List B8) (p : B8) (m : Nat) (q : Bool) (h : Hid (ws.Pairwise (· < ·) ∧ cnt ws p = m ∧ decide (p ∈ ws) = q)) (w : World) (hD : DT w A n c ws) :
    Calls Tryz.prog 24 #[.agg #[.slice A n c], .string ⟨p.toArray⟩] w fun e w' => e = .returned (.tuple #[.int .i64 (m : Nat), .bool q]) ∧ Below w.heap.size w w' := by
  obtain ⟨h1, h2, h3⟩ := h.out
  have := find_any A n c ws h1 p w hD
  rw [h3, h2] at this
  exact this
theorem word_is (A : Option Addr) (n c : Nat) (ws : List B8) (k : Nat) (x : B8) (h : Hid (ws[k]? = some x)) (w : World) (hD : DT w A n c ws) : Calls Tryz.prog 11 #[.agg #[.slice A n c], .int .i64 k] w fun e w' => e = .returned (.string ⟨x.toArray⟩) ∧ Below w.heap.size w w' := by
  obtain ⟨hk, e⟩ := List.getElem?_eq_some_iff.1 h.out
  rw [← e]
  exact word_in A n c ws w hD k hk
theorem word_lit (A : Option Addr) (n c : Nat) (ws : List B8) (x : B8) (h : Hid (ws[1]? = some x)) (w : World) (hD : DT w A n c ws) : Calls Tryz.prog 11 #[.agg #[.slice A n c], .int .i64 1] w fun e w' => e = .returned (.string ⟨x.toArray⟩) ∧ Below w.heap.size w w' := word_is A n c ws 1 x h w hD
theorem dct_head : dct [[98], [97], [97, 98], [98]] = [[97], [97, 98], [98]] := by
  refine rises_ext _ _ (dct_rises _) (by decide) fun a => ?_
  rw [dct_mem]
  simp only [List.mem_cons, List.not_mem_nil, or_false]
  constructor
  · rintro (h | h | h | h) <;> simp [h]
  · rintro (h | h | h) <;> simp [h]
set_option maxHeartbeats 4000000 in
theorem head_any (w : World) : Calls Tryz.prog 4 #[] w fun e w' => e = .returned (.bool true) ∧ Below w.heap.size w w' := by
  have HM : Hid (4 = ([[98], [97], [97, 98], [98]] : List B8).length ∧ ([[98], [97], [97, 98], [98]] : List B8).length ≤ 1000 ∧ (∀ x ∈ ([[98], [97], [97, 98], [98]] : List B8), x.length ≤ 1000) ∧ dct [[98], [97], [97, 98], [98]] = [[97], [97, 98], [98]]) := ⟨rfl, by decide, by decide, dct_head⟩
  have HP : Hid (([[97], [97, 98], [98]] : List B8).Pairwise (· < ·) ∧ cnt [[97], [97, 98], [98]] [97] = 0 ∧ cnt [[97], [97, 98], [98]] [97] + pcnt [[97], [97, 98], [98]] [97] = 2) := ⟨by decide, by decide +kernel, by decide +kernel⟩
  have HW : Hid (([[97], [97, 98], [98]] : List B8)[1]? = some [97, 98]) := rfl
  obtain ⟨X, hX⟩ : ∃ X, w.alloc (.cells #[.string ⟨#[98]⟩, .string ⟨#[97]⟩, .string ⟨#[97, 98]⟩, .string ⟨#[98]⟩] 9) = X := ⟨_, rfl⟩
  have bX : Below w.heap.size w X := by rw [← hX]; exact (Below.refl _ _).alloc (Nat.le_refl _) _
  have HI : Hid (CS X X.heap.size (some ⟨w.heap.size, 0, none⟩) (([[98], [97], [97, 98], [98]] : List B8).map encStr)) := fun _ => ⟨w.heap.size, 0, rfl, by rw [← hX]; simp, fun k u hu => by
    rw [← hX]
    have z := new_cells w #[.string ⟨#[98]⟩, .string ⟨#[97]⟩, .string ⟨#[97, 98]⟩, .string ⟨#[98]⟩] 9 (0, 0) k u hu
    rwa [add_addr] at z⟩
  have HBX := Lib.hid bX
  clear bX
  go_enter Tryz.func4, Tryz.ntmps4
  go_wp2_with fail
  with_reducible refine (make_is _ _ _ _ _ HM _ HI.out).mono ?_
  rintro e w1 ⟨A2, n2, c2, rfl, hD, b1⟩
  have hn2 : n2 = 3 := hD.len
  subst hn2
  obtain ⟨Y, hY⟩ : ∃ Y, w1.alloc (.cells #[.slice A2 3 c2] 34) = Y := ⟨_, rfl⟩
  have bY : Below w1.heap.size w1 Y := by rw [← hY]; exact (Below.refl _ _).alloc (Nat.le_refl _) _
  have HD := Lib.hid (hD.keep bY)
  have cY : Y.cell? ⟨w1.heap.size, 0, none⟩ = some (.slice A2 3 c2) := by
    rw [← hY]
    have z := new_cells w1 #[.slice A2 3 c2] 34 (0, 0) 0 _ rfl
    rwa [add_addr, Nat.zero_add] at z
  have HCY : Hid (∀ W, Below Y.heap.size Y W → W.cell? ⟨w1.heap.size, 0, none⟩ = some (.slice A2 3 c2)) := fun W hb => (hb.cell (World.block_lt_of_cell? Y _ cY)).trans cY
  have HBY := Lib.hid (HBX.out.trans ((b1.trans (bY.mono b1.size)).mono HBX.out.size))
  clear hD b1 bY HBX HI
  go_wp2_with fail
  with_reducible refine (prefix_is _ _ _ _ [97] _ _ HP _ HD.out).mono ?_
  rintro e w2 ⟨rfl, b2⟩
  have c2' := HCY.out w2 b2
  go_wp2_with fail
  with_reducible refine (len_any _ _ _ _).mono ?_
  rintro e w3 ⟨rfl, b3⟩
  replace b3 := b2.trans (b3.mono b2.size)
  have c3' := HCY.out w3 b3
  clear c2'
  go_wp2_with fail
  with_reducible refine (word_lit _ _ _ _ _ HW _ (HD.out.keep b3)).mono ?_
  rintro e w4 ⟨rfl, b4⟩
  replace b4 := b3.trans (b4.mono b3.size)
  go_wp2_with fail
  go_ret
  exact ⟨rfl, HBY.out.trans (b4.mono HBY.out.size)⟩
end Go.Proofs.YtjeccmmhmdgdgaaGreatDoor.Dc
/- DictMatches answers true. -/
namespace Go.Proofs.YtjeccmmhmdgdgaaGreatDoor
open Go.RowKit
set_option maxRecDepth 100000

theorem ofL_idM (l : List UInt8) : ofL true true false l = l := whole_id l
/-- What matches begins so. -/
theorem begins_m (l v : List UInt8) (cs mk st sp wd : Bool) (h : matQ l cs mk st sp wd v = true) : preQ l cs mk st sp wd <+: v := by
  unfold preQ
  cases ha : anyQ l sp with
  | true => simp
  | false =>
    unfold matQ at h
    rw [ha] at h
    cases cs with
    | false => simp
    | true =>
      cases mk with
      | false => simp
      | true =>
        rw [if_neg (by simp)] at h ⊢
        cases wd with
        | true =>
          rw [if_pos rfl] at h ⊢
          rw [whole_id] at h
          obtain ⟨t, ht⟩ := matchT_pref _ _ h
          rw [ht]
          simp
        | false =>
          rw [if_neg (by simp)] at h ⊢
          cases st with
          | true => simp
          | false =>
            rw [if_neg (by simp)]
            have e := of_decide_eq_true h
            rw [ofL_idM, ofL_idM] at e
            rw [ofL_idM, e]
            simp
/-- The places, from lo on, so many, of what is matched. -/
noncomputable def gotL (ds : List (List UInt8)) (m : List UInt8 → Bool) (lo n : Nat) : List Nat := (List.range' lo n).filter fun k => m (ds.getD k [])
theorem gotL_zero (ds : List (List UInt8)) (m : List UInt8 → Bool) (lo : Nat) : gotL ds m lo 0 = [] := rfl
theorem gotL_snoc (ds : List (List UInt8)) (m : List UInt8 → Bool) (lo n : Nat) : gotL ds m lo (n + 1) = gotL ds m lo n ++ cond (m (ds.getD (lo + n) [])) [lo + n] [] := by
  unfold gotL
  rw [List.range'_1_concat, List.filter_append]
  refine congrArg _ ?_
  show (match m (ds.getD (lo + n) []) with | true => [lo + n] | false => []) = _
  cases m (ds.getD (lo + n) []) <;> rfl
theorem gotL_app (ds : List (List UInt8)) (m : List UInt8 → Bool) : ∀ (a b lo : Nat), gotL ds m lo (a + b) = gotL ds m lo a ++ gotL ds m (lo + a) b
  | a, 0, lo => by simp [gotL]
  | a, b + 1, lo => by
    rw [← Nat.add_assoc, gotL_snoc, gotL_app ds m a b lo, List.append_assoc, gotL_snoc, Nat.add_assoc]
theorem gotL_len (ds : List (List UInt8)) (m : List UInt8 → Bool) (lo n : Nat) : (gotL ds m lo n).length ≤ n := by
  unfold gotL
  exact Nat.le_trans (List.length_filter_le _ _) (by simp)
theorem gotL_none (ds : List (List UInt8)) (m : List UInt8 → Bool) (lo n : Nat) (h : ∀ k, lo ≤ k → k < lo + n → m (ds.getD k []) = false) : gotL ds m lo n = [] := by
  unfold gotL
  rw [List.filter_eq_nil_iff]
  intro k hk
  have := List.mem_range'_1.1 hk
  rw [h k this.1 this.2]
  simp
/-- What lies where words begin so is all that is matched. -/
theorem gotL_all (ds : List (List UInt8)) (hr : ds.Pairwise (· < ·)) (m : List UInt8 → Bool) (p : List UInt8) (hm : ∀ v, m v = true → p <+: v) : gotL ds m (Dc.cnt ds p) (Dc.pcnt ds p) = gotL ds m 0 ds.length := by
  have hle := Dc.pcnt_le ds p
  obtain ⟨r, hrr⟩ : ∃ r, ds.length = Dc.cnt ds p + (Dc.pcnt ds p + r) := ⟨ds.length - (Dc.cnt ds p + Dc.pcnt ds p), by omega⟩
  have out : ∀ k, k < ds.length → (k < Dc.cnt ds p ∨ Dc.cnt ds p + Dc.pcnt ds p ≤ k) → m (ds.getD k []) = false := fun k hk ho => by
    have hb := Dc.beg_at hr p k hk
    have hf : (decide (Dc.cnt ds p ≤ k) && decide (k < Dc.cnt ds p + Dc.pcnt ds p)) = false := by
      rcases ho with h | h
      · rw [decide_eq_false (by omega), Bool.false_and]
      · rw [decide_eq_false (p := k < _) (by omega), Bool.and_false]
    rw [hf] at hb
    rw [List.getD_eq_getElem?_getD, List.getElem?_eq_getElem hk]
    simp only [Option.getD_some]
    cases hq : m ds[k] with
    | false => rfl
    | true =>
      have := (Dc.beg_iff ds[k] p).2 (hm _ hq)
      rw [hb] at this
      cases this
  rw [hrr, gotL_app, gotL_app, gotL_none ds m 0 (Dc.cnt ds p) (fun k _ h => out k (by omega) (.inl (by omega))), gotL_none ds m (0 + Dc.cnt ds p + Dc.pcnt ds p) r (fun k h1 h2 => out k (by omega) (.inr (by omega)))]
  simp
def ciN (l : List Nat) : List Value := l.map fun (x : Nat) => Value.int .i64 (x : Int)
theorem ciN_one (l : List Nat) : ∀ u ∈ ciN l, u.oneCell' = true := fun u hu => by obtain ⟨x, _, rfl⟩ := List.mem_map.1 hu; rfl
theorem ciN_len (l : List Nat) : (ciN l).length = l.length := by simp [ciN]
theorem ciN_app (l m : List Nat) : ciN (l ++ m) = ciN l ++ ciN m := List.map_append
/-- A word of a question as it lies in a box. -/
abbrev wdV (any a b cc d e : Bool) (t : List UInt8) (q : Option Addr) : Value := .agg #[.bool any, .bool a, .bool b, .bool cc, .bool d, .bool e, .string (strOf t), .pointer q]
def Wd8 (W : World) (B : Nat) (any a b cc d e : Bool) (st : ByteArray) (q : Option Addr) : Prop :=
  W.cell? ⟨B, 0, none⟩ = some (.bool any) ∧ W.cell? ⟨B, 1, none⟩ = some (.bool a) ∧ W.cell? ⟨B, 2, none⟩ = some (.bool b) ∧ W.cell? ⟨B, 3, none⟩ = some (.bool cc) ∧ W.cell? ⟨B, 4, none⟩ = some (.bool d) ∧ W.cell? ⟨B, 5, none⟩ = some (.bool e) ∧ W.cell? ⟨B, 6, none⟩ = some (.string st) ∧ W.cell? ⟨B, 7, none⟩ = some (.pointer q)
theorem Wd8.keep {w w' : World} {B : Nat} {any a b cc d e : Bool} {st : ByteArray} {q : Option Addr} (h : Wd8 w B any a b cc d e st q) (hb : Below w.heap.size w w') : Wd8 w' B any a b cc d e st q := by
  obtain ⟨h0, h1, h2, h3, h4, h5, h6, h7⟩ := h
  exact ⟨cells_below hb h0, cells_below hb h1, cells_below hb h2, cells_below hb h3, cells_below hb h4, cells_below hb h5, cells_below hb h6, cells_below hb h7⟩
theorem Wd8.new (w : World) (any a b cc d e : Bool) (st : ByteArray) (q : Option Addr) (t : TypeId) : Wd8 (w.alloc (.cells #[.bool any, .bool a, .bool b, .bool cc, .bool d, .bool e, .string st, .pointer q] t)) w.heap.size any a b cc d e st q := by
  have z : ∀ j u, [Value.bool any, .bool a, .bool b, .bool cc, .bool d, .bool e, .string st, .pointer q][j]? = some u → (w.alloc (.cells #[.bool any, .bool a, .bool b, .bool cc, .bool d, .bool e, .string st, .pointer q] t)).cell? ⟨w.heap.size, j, none⟩ = some u := fun j u hu => by
    have := new_cells w #[.bool any, .bool a, .bool b, .bool cc, .bool d, .bool e, .string st, .pointer q] t (0, 0) j u hu
    rwa [add_addr, Nat.zero_add] at this
  exact ⟨z 0 _ rfl, z 1 _ rfl, z 2 _ rfl, z 3 _ rfl, z 4 _ rfl, z 5 _ rfl, z 6 _ rfl, z 7 _ rfl⟩
set_option maxHeartbeats 4000000 in
theorem dmatch_any (A : Option Addr) (n c : Nat) (ds : List (List UInt8)) (hr : Hid (ds.Pairwise (· < ·) ∧ ∀ x ∈ ds, x.length ≤ 1000)) (any a b cc d e : Bool) (t : List UInt8) (q : Option Addr) (m : List UInt8 → Bool) (p : List UInt8) (hm : Hid (∀ u, m u = true → p <+: u)) (w : World) (hD : Dc.DT w A n c ds) (HQ : Hid (QW w any m p (wdV any a b cc d e t q))) :
    Calls Tryz.prog 8 #[.agg #[.slice A n c], wdV any a b cc d e t q] w fun e w' => ∃ A' c', e = .returned (.slice A' (gotL ds m 0 ds.length).length c') ∧ CS w' w'.heap.size A' (ciN (gotL ds m 0 ds.length)) ∧ Below w.heap.size w w' := by
  obtain ⟨st, hst⟩ : ∃ st, st = strOf t := ⟨_, rfl⟩
  obtain ⟨X1, hX1⟩ : ∃ X, w.alloc (.cells #[.slice A n c] 34) = X := ⟨_, rfl⟩
  obtain ⟨X, hX⟩ : ∃ X, X1.alloc (.cells #[.bool any, .bool a, .bool b, .bool cc, .bool d, .bool e, .string st, .pointer q] 29) = X := ⟨_, rfl⟩
  have b1 : Below w.heap.size w X1 := by rw [← hX1]; exact (Below.refl _ _).alloc (Nat.le_refl _) _
  have s1 : X1.heap.size = w.heap.size + 1 := by rw [← hX1]; simp
  have b2 : Below X1.heap.size X1 X := by rw [← hX]; exact (Below.refl _ _).alloc (Nat.le_refl _) _
  have bX := b1.trans (b2.mono b1.size)
  have x0 : X.cell? ⟨w.heap.size, 0, none⟩ = some (.slice A n c) := by
    have z := new_cells w #[.slice A n c] 34 (0, 0) 0 _ rfl
    rw [add_addr, hX1] at z
    exact (b2.cell (p := ⟨w.heap.size, 0, none⟩) (by show w.heap.size < _; omega)).trans z
  have x8 : Wd8 X (w.heap.size + 1) any a b cc d e st q := by
    have := Wd8.new X1 any a b cc d e st q 29
    rwa [hX, s1] at this
  have HK : Hid (∀ W, Below X.heap.size X W → W.cell? ⟨w.heap.size, 0, none⟩ = some (.slice A n c) ∧ Wd8 W (w.heap.size + 1) any a b cc d e st q) := fun W hW => ⟨cells_below hW x0, x8.keep hW⟩
  have HX0 : Hid ((w.alloc (.cells #[.slice A n c] 34)).alloc (.cells #[.bool any, .bool a, .bool b, .bool cc, .bool d, .bool e, .string st, .pointer q] 29) = X) := by show _ = _; rw [hX1, hX]
  have HDX := Lib.hid (hD.keep bX)
  have HBX := Lib.hid bX
  obtain ⟨sp, hsp⟩ : ∃ sp, sp = strOf p := ⟨_, rfl⟩
  obtain ⟨lo, hlo⟩ : ∃ lo, lo = Dc.cnt ds p := ⟨_, rfl⟩
  obtain ⟨hi, hhi⟩ : ∃ hi, hi = Dc.cnt ds p + Dc.pcnt ds p := ⟨_, rfl⟩
  have KP : Hid (∀ W, Below X.heap.size X W → Calls Tryz.prog 21 #[.agg #[.bool any, .bool a, .bool b, .bool cc, .bool d, .bool e, .string st, .pointer q]] W fun e w' => e = .returned (.string sp) ∧ Below X.heap.size X w') := fun W hW => by
    rw [hst, hsp]
    exact (HQ.out.pre W (bX.trans (hW.mono bX.size))).mono fun e w' h => ⟨h.1, hW.trans (h.2.mono hW.size)⟩
  have KD : Hid (∀ W, Below X.heap.size X W → Calls Tryz.prog 12 #[.agg #[.slice A n c], .string sp] W fun e w' => e = .returned (.tuple #[.int .i64 (lo : Nat), .int .i64 (hi : Nat)]) ∧ Below X.heap.size X w') := fun W hW => by
    rw [hsp]
    exact (Dc.prefix_is A n c ds p lo hi ⟨hr.out.1, hlo.symm, hhi.symm⟩ W (HDX.out.keep hW)).mono fun e w' h => ⟨h.1, hW.trans (h.2.mono hW.size)⟩
  have hdn : n = ds.length := hD.len
  have hn1 := hD.few
  have hle : lo ≤ hi ∧ hi ≤ n := by have := Dc.pcnt_le ds p; omega
  have HALL : Hid (gotL ds m lo (hi - lo) = gotL ds m 0 ds.length) := by
    show _ = _
    rw [hhi, hlo, Nat.add_sub_cancel_left]
    exact gotL_all ds hr.out.1 m p hm.out
  have HDN := Lib.hid hdn
  have HO : Hid (X.ownsRow X.heap.size 3 1 (.slice none 0 0) 0 (ciN (gotL ds m lo 0))) := World.ownsRow_nil _ _ _ _
  have KM : Hid (∀ W, Below X.heap.size X W → ∀ k (hk : k < ds.length), Calls Tryz.prog 10 #[.agg #[.bool any, .bool a, .bool b, .bool cc, .bool d, .bool e, .string st, .pointer q], .string ⟨ds[k].toArray⟩] W fun e w' => e = .returned (.bool (m ds[k])) ∧ Below X.heap.size X w' ∧ Below W.heap.size W w') := fun W hW k hk => by
    rw [hst]
    exact (HQ.out.mat W (bX.trans (hW.mono bX.size)) ds[k] (by have := hr.out.2 ds[k] (List.getElem_mem hk); omega)).mono fun e w' h => ⟨h.1, hW.trans (h.2.mono hW.size), h.2⟩
  have BR := Lib.hid (Below.refl X.heap.size X)
  have HST := Lib.hid hst
  unfold wdV
  rw [← hst]
  clear hX1 hX b1 s1 b2 bX x0 x8 hsp hlo hhi hdn hD hst
  go_enter Tryz.func8, Tryz.ntmps8
  go_wp2_with fail
  rw [HX0.out]
  go_region_held3 (fun W => W.cell? ⟨w.heap.size, 0, none⟩ = some (.slice A n c) ∧ W.cell? ⟨w.heap.size + 1, 0, none⟩ = some (.bool any) ∧ W.cell? ⟨w.heap.size + 1, 1, none⟩ = some (.bool a) ∧ W.cell? ⟨w.heap.size + 1, 2, none⟩ = some (.bool b) ∧ W.cell? ⟨w.heap.size + 1, 3, none⟩ = some (.bool cc) ∧ W.cell? ⟨w.heap.size + 1, 4, none⟩ = some (.bool d) ∧ W.cell? ⟨w.heap.size + 1, 5, none⟩ = some (.bool e) ∧ W.cell? ⟨w.heap.size + 1, 6, none⟩ = some (.string st) ∧ W.cell? ⟨w.heap.size + 1, 7, none⟩ = some (.pointer q))
    (first | exact HK.out _ BR.out.drew | exact HK.out _ b4 | exact HK.out _ b5)
    (first
      | (go_at_call 21; (with_reducible refine (KP.out _ BR.out.drew).mono ?_); rintro e w4 ⟨rfl, b4⟩)
      | (go_at_call 12; (with_reducible refine (KD.out _ b4).mono ?_); rintro e w5 ⟨rfl, b5⟩))
  all_goals
    have HB5 := Lib.hid b5
    have HO5 : Hid (w5.ownsRow X.heap.size 3 1 (.slice none 0 0) 0 (ciN (gotL ds m lo 0))) := World.ownsRow_nil _ _ _ _
    clear b4 b5 KP KD
    go_wp2_with fail
    go_loopw [7, 8] (fun s7 s8 wr => ∃ (i L : Nat) (v : Value), lo ≤ i ∧ i ≤ hi ∧ s8 = .int .i64 i ∧ v = s7 ∧ Hid (L = (gotL ds m lo (i - lo)).length) ∧ Hid (wr.ownsRow X.heap.size 3 1 v L (ciN (gotL ds m lo (i - lo)))) ∧ Hid (Below X.heap.size X wr)) (fun _ i _ => hi - (intOf i).toNat)
    case atStart => exact ⟨lo, 0, _, Nat.le_refl _, hle.1, rfl, rfl, by rw [Nat.sub_self]; rfl, by rw [Nat.sub_self]; exact HO5, HB5⟩
    case round =>
      obtain ⟨i, L, v, hi0, hi1, rfl, rfl, HL, HV, HB⟩ := hrel
      obtain ⟨AV, cV, rfl, hcap, hmx, hcsv, _⟩ := own_form HV.out
      by_cases hlt : i < hi
      · have hid : i < ds.length := by rw [← HDN.out]; omega
        obtain ⟨j, hj⟩ : ∃ j, j = i - lo := ⟨_, rfl⟩
        have hij : lo + j = i := by omega
        have hg := gotL_snoc ds m lo j
        rw [hij, List.getD_eq_getElem?_getD, List.getElem?_eq_getElem hid] at hg
        simp only [Option.getD_some] at hg
        have hj1 : i + 1 - lo = j + 1 := by omega
        rw [← hj] at HL HV
        have hLl : L ≤ 1000 := by rw [HL.out]; have := gotL_len ds m lo j; omega
        obtain ⟨bb, o, rfl, hbb, hcx⟩ := (HDX.out.keep HB.out).at i hid
        have KMi := Lib.hid (fun W hW => KM.out W hW i hid)
        obtain ⟨sx, hsx⟩ : ∃ sx, sx = (⟨ds[i].toArray⟩ : ByteArray) := ⟨_, rfl⟩
        obtain ⟨mb, hmb⟩ : ∃ mb, mb = m ds[i] := ⟨_, rfl⟩
        rw [← hsx] at hcx
        simp only [← hsx, ← hmb] at KMi
        rw [← hmb] at hg
        have HG := Lib.hid hg
        have HLT := Lib.hid hlt
        have HJ1 := Lib.hid hj1
        have HK2 : Hid (∀ W, Below wr.heap.size wr W → (W.cell? ⟨bb, o + i, none⟩ = some (.string sx)) ∧ (W.cell? ⟨w.heap.size, 0, none⟩ = some (.slice (some ⟨bb, o, none⟩) n c) ∧ W.cell? ⟨w.heap.size + 1, 0, none⟩ = some (.bool any) ∧ W.cell? ⟨w.heap.size + 1, 1, none⟩ = some (.bool a) ∧ W.cell? ⟨w.heap.size + 1, 2, none⟩ = some (.bool b) ∧ W.cell? ⟨w.heap.size + 1, 3, none⟩ = some (.bool cc) ∧ W.cell? ⟨w.heap.size + 1, 4, none⟩ = some (.bool d) ∧ W.cell? ⟨w.heap.size + 1, 5, none⟩ = some (.bool e) ∧ W.cell? ⟨w.heap.size + 1, 6, none⟩ = some (.string st) ∧ W.cell? ⟨w.heap.size + 1, 7, none⟩ = some (.pointer q))) := fun W hW => ⟨cells_below hW hcx, HK.out W (HB.out.trans (hW.mono HB.out.size))⟩
        have KM2 : Hid (∀ W, Below wr.heap.size wr W → Calls Tryz.prog 10 #[.agg #[.bool any, .bool a, .bool b, .bool cc, .bool d, .bool e, .string st, .pointer q], .string sx] W fun e w' => e = .returned (.bool mb) ∧ Below wr.heap.size wr w' ∧ Below W.heap.size W w') := fun W hW => (KMi.out W (HB.out.trans (hW.mono HB.out.size))).mono fun e w' h => ⟨h.1, hW.trans (h.2.2.mono hW.size), h.2.2⟩
        have BRr := Lib.hid (Below.refl wr.heap.size wr)
        have hinI : (i : Int) < (n : Int) := by omega
        have hltI : decide ((i : Int) < (hi : Int)) = true := decide_eq_true (by omega)
        have wk : IntKind.i64.wrap ((i : Int) + 1) = (i : Int) + 1 := by rw [IntKind.wrap_i64]; omega
        clear hg hj hij hj1 hsx hmb hid hcx hbb KMi hcsv
        go_wp2_with fail
        go_region_held3 (fun W => (W.cell? ⟨bb, o + i, none⟩ = some (.string sx)) ∧ (W.cell? ⟨w.heap.size, 0, none⟩ = some (.slice (some ⟨bb, o, none⟩) n c) ∧ W.cell? ⟨w.heap.size + 1, 0, none⟩ = some (.bool any) ∧ W.cell? ⟨w.heap.size + 1, 1, none⟩ = some (.bool a) ∧ W.cell? ⟨w.heap.size + 1, 2, none⟩ = some (.bool b) ∧ W.cell? ⟨w.heap.size + 1, 3, none⟩ = some (.bool cc) ∧ W.cell? ⟨w.heap.size + 1, 4, none⟩ = some (.bool d) ∧ W.cell? ⟨w.heap.size + 1, 5, none⟩ = some (.bool e) ∧ W.cell? ⟨w.heap.size + 1, 6, none⟩ = some (.string st) ∧ W.cell? ⟨w.heap.size + 1, 7, none⟩ = some (.pointer q)))
          (first | exact HK2.out _ BRr.out.drew | exact HK2.out _ b6)
          (first
            | (go_at_call 10; (with_reducible refine (KM2.out _ BRr.out.drew).mono ?_); rintro e w6 ⟨rfl, b6, _⟩))
        all_goals
          have HB6 := Lib.hid b6
          have HBX6 := Lib.hid (HB.out.trans (b6.mono HB.out.size))
          have HV6 := Lib.hid (own_below HV.out b6)
          clear b6
          cases mb
          · have HL' : Hid (L = (gotL ds m lo (i + 1 - lo)).length) := by show _ = _; rw [HJ1.out, HG.out]; simp [HL.out]
            have HV' : Hid (w6.ownsRow X.heap.size 3 1 (.slice AV L cV) L (ciN (gotL ds m lo (i + 1 - lo)))) := by show World.ownsRow _ _ _ _ _ _ _; rw [HJ1.out, HG.out]; simpa using HV6.out
            go_wp2_with fail
            exact ⟨⟨i + 1, L, _, Nat.le_succ_of_le hi0, HLT.out, by go_num, rfl, HL', HV', HBX6⟩, by have := HLT.out; simp [intOf]; omega⟩
          · obtain ⟨Y, hY⟩ : ∃ Y, w6.alloc (.cells #[.int .i64 (i : Int)] 3) = Y := ⟨_, rfl⟩
            have bY : Below w6.heap.size w6 Y := by rw [← hY]; exact (Below.refl _ _).alloc (Nat.le_refl _) _
            have HCN : Hid (CS Y Y.heap.size (some ⟨w6.heap.size, 0, none⟩) [.int .i64 (i : Int)]) := by
              rw [← hY]
              exact fun _ => ⟨w6.heap.size, 0, rfl, by simp, fun k u hu => by have := new_cells w6 #[.int .i64 (i : Int)] 3 (0, 0) k u hu; rwa [add_addr] at this⟩
            have HVY := Lib.hid (own_below HV6.out bY)
            have HBY := Lib.hid (HBX6.out.trans (bY.mono HBX6.out.size))
            have hbs := HBY.out.size
            have HY := Lib.hid hY
            clear hY bY
            go_wp2_with (at_builtin; (rw [HY.out]; refine wpList_appR elInt Y rfl (.tmp 29) (.tmp 31) rfl X.heap.size (.slice AV L cV) L (ciN (gotL ds m lo j)) rfl HVY.out (some ⟨w6.heap.size, 0, none⟩) 1 1 Y.heap.size [.int .i64 (i : Int)] rfl rfl (fun u hu => by simp at hu; subst hu; rfl) HCN.out (L + 1) rfl (by omega) hbs ?_; intro v7 w7 hown7 hg7 _; have H7 := Lib.hid (And.intro hown7 (own_grow HVY.out (Nat.le_refl _) HBY.out hbs hg7)); clear hown7 hg7))
            have HL' : Hid (L + 1 = (gotL ds m lo (i + 1 - lo)).length) := by show _ = _; rw [HJ1.out, HG.out]; simp [HL.out]
            have HV' : Hid (w7.ownsRow X.heap.size 3 1 v7 (L + 1) (ciN (gotL ds m lo (i + 1 - lo)))) := by show World.ownsRow _ _ _ _ _ _ _; rw [HJ1.out, HG.out, ciN_app]; exact H7.out.1
            exact ⟨⟨i + 1, L + 1, v7, Nat.le_succ_of_le hi0, HLT.out, by go_num, rfl, HL', HV', H7.out.2⟩, by have := HLT.out; simp [intOf]; omega⟩
      · obtain rfl : i = hi := by omega
        have hltI : decide ((i : Int) < (i : Int)) = false := decide_eq_false (by omega)
        have HF : Hid (L = (gotL ds m 0 ds.length).length ∧ CS wr wr.heap.size AV (ciN (gotL ds m 0 ds.length)) ∧ Below w.heap.size w wr) := by
          have h1 := HL.out
          rw [HALL.out] at h1 hcsv
          exact ⟨h1, hcsv, HBX.out.trans (HB.out.mono HBX.out.size)⟩
        clear hcsv
        go_wp2_with fail
        go_ret
        exact ⟨AV, cV, by rw [← HF.out.1]; rfl, HF.out.2.1, HF.out.2.2⟩
end Go.Proofs.YtjeccmmhmdgdgaaGreatDoor
/- DictMatches answers true: the law. -/
namespace Go.Proofs.YtjeccmmhmdgdgaaGreatDoor
open Go.RowKit
set_option maxRecDepth 100000

def Op5 (W : World) (B : Nat) (cs mk st sp wd : Bool) : Prop := OptAt W B cs mk st sp wd
set_option maxHeartbeats 2000000 in
theorem dmt_many (A : Option Addr) (n c : Nat) (xs : List (List UInt8)) (l : List UInt8) (cs mk st sp wd : Bool) (hn : Hid (n = xs.length ∧ Dc.fewB xs = false)) (hnm : n ≤ 9223372036854775807) (w : World) (hI : CS w w.heap.size A (xs.map encStr)) :
    Calls Tryz.prog 3 #[.slice A n c, .string (strOf l), .agg #[.bool cs, .bool mk, .bool st, .bool sp, .bool wd]] w fun e w' => e = .returned (.bool true) ∧ Below w.heap.size w w' := by
  have b0 := (Below.refl w.heap.size w).alloc (Nat.le_refl _) (.cells #[.bool cs, .bool mk, .bool st, .bool sp, .bool wd] 24)
  obtain ⟨X, hX⟩ : ∃ X, w.alloc (.cells #[.bool cs, .bool mk, .bool st, .bool sp, .bool wd] 24) = X := ⟨_, rfl⟩
  rw [hX] at b0
  have HC := Lib.hid ((hI.below b0).more b0.size)
  have HX := Lib.hid hX
  have HB := Lib.hid b0
  clear hI b0 hX
  go_enter Tryz.func3, Tryz.ntmps3
  go_wp2_with fail
  rw [HX.out]
  with_reducible refine (Dc.head_any _).mono ?_
  rintro e w1 ⟨rfl, b1⟩
  have C1 := Lib.hid ((HC.out.below b1).more b1.size)
  have B1 := Lib.hid (HB.out.trans (b1.mono HB.out.size))
  clear b1
  go_wp2_with fail
  with_reducible refine (Dc.few_is A n c xs false hn hnm _ C1.out).mono ?_
  rintro e w2 ⟨rfl, rfl⟩
  go_wp2_with fail
  go_ret
  exact ⟨rfl, B1.out⟩
set_option maxHeartbeats 2000000 in
theorem dmt_long (A : Option Addr) (n c : Nat) (xs : List (List UInt8)) (l : List UInt8) (cs mk st sp wd : Bool) (hn : Hid (n = xs.length ∧ Dc.fewB xs = true)) (hl : 30 < l.length) (hlm : l.length ≤ 9223372036854775807) (w : World) (hI : CS w w.heap.size A (xs.map encStr)) :
    Calls Tryz.prog 3 #[.slice A n c, .string (strOf l), .agg #[.bool cs, .bool mk, .bool st, .bool sp, .bool wd]] w fun e w' => e = .returned (.bool true) ∧ Below w.heap.size w w' := by
  have b0 := (Below.refl w.heap.size w).alloc (Nat.le_refl _) (.cells #[.bool cs, .bool mk, .bool st, .bool sp, .bool wd] 24)
  obtain ⟨X, hX⟩ : ∃ X, w.alloc (.cells #[.bool cs, .bool mk, .bool st, .bool sp, .bool wd] 24) = X := ⟨_, rfl⟩
  rw [hX] at b0
  have HC := Lib.hid ((hI.below b0).more b0.size)
  have HX := Lib.hid hX
  have HB := Lib.hid b0
  have hnm : n ≤ 9223372036854775807 := by have := (Dc.few_true hn.out.2).1; have := hn.out.1; omega
  have hz : decide ((30 : Int) < ((strOf l).size : Int)) = true := decide_eq_true (by rw [size8]; omega)
  clear hI b0 hX
  go_enter Tryz.func3, Tryz.ntmps3
  go_wp2_with fail
  rw [HX.out]
  with_reducible refine (Dc.head_any _).mono ?_
  rintro e w1 ⟨rfl, b1⟩
  have C1 := Lib.hid ((HC.out.below b1).more b1.size)
  have B1 := Lib.hid (HB.out.trans (b1.mono HB.out.size))
  clear b1
  go_wp2_with fail
  with_reducible refine (Dc.few_is A n c xs true hn hnm _ C1.out).mono ?_
  rintro e w2 ⟨rfl, rfl⟩
  go_wp2_with fail
  go_ret
  exact ⟨rfl, B1.out⟩
set_option maxHeartbeats 8000000 in
theorem dmt_few (A : Option Addr) (n c : Nat) (xs : List (List UInt8)) (l : List UInt8) (cs mk st sp wd : Bool) (hn : Hid (n = xs.length ∧ Dc.fewB xs = true)) (hl : l.length ≤ 30) (w : World) (hT : UT w) (hI : CS w w.heap.size A (xs.map encStr)) :
    Calls Tryz.prog 3 #[.slice A n c, .string (strOf l), .agg #[.bool cs, .bool mk, .bool st, .bool sp, .bool wd]] w fun e w' => e = .returned (.bool true) ∧ Below w.heap.size w w' := by
  have b0 := (Below.refl w.heap.size w).alloc (Nat.le_refl _) (.cells #[.bool cs, .bool mk, .bool st, .bool sp, .bool wd] 24)
  have hO := OptAt.new w cs mk st sp wd
  obtain ⟨X, hX⟩ : ∃ X, w.alloc (.cells #[.bool cs, .bool mk, .bool st, .bool sp, .bool wd] 24) = X := ⟨_, rfl⟩
  rw [hX] at b0 hO
  obtain ⟨f1, f2⟩ := Dc.few_true hn.out.2
  have hn60 : n ≤ 60 := by rw [hn.out.1]; exact f1
  have HC := Lib.hid ((hI.below b0).more b0.size)
  have HX := Lib.hid hX
  have HB := Lib.hid b0
  have HT := Lib.hid (ut_keep hT b0)
  have HO := Lib.hid hO
  have hz : decide ((30 : Int) < ((strOf l).size : Int)) = false := decide_eq_false (by rw [size8]; omega)
  obtain ⟨D, hD⟩ : ∃ D, Dc.dct xs = D := ⟨_, rfl⟩
  have HM : Hid (n = xs.length ∧ xs.length ≤ 1000 ∧ (∀ x ∈ xs, x.length ≤ 1000) ∧ Dc.dct xs = D) := ⟨hn.out.1, by omega, fun x h => by have := f2 x h; omega, hD⟩
  have HR : Hid (D.Pairwise (· < ·) ∧ ∀ x ∈ D, x.length ≤ 1000) := ⟨by rw [← hD]; exact Dc.dct_rises xs, fun x hx => by rw [← hD] at hx; have := f2 x ((Dc.dct_mem xs x).1 hx); omega⟩
  have hL := Lib.hid hl
  clear hI b0 hX hT hO hD f1 f2 hl
  go_enter Tryz.func3, Tryz.ntmps3
  go_wp2_with fail
  rw [HX.out]
  with_reducible refine (Dc.head_any _).mono ?_
  rintro e w1 ⟨rfl, b1⟩
  have C1 := Lib.hid ((HC.out.below b1).more b1.size)
  have B1 := Lib.hid (HB.out.trans (b1.mono HB.out.size))
  have T1 := Lib.hid (ut_keep HT.out b1)
  have hO1 := HO.out.keep b1
  obtain ⟨o0, o1, o2, o3, o4⟩ := hO1
  clear b1
  go_wp2_with fail
  with_reducible refine (Dc.few_is A n c xs true hn (by omega) _ C1.out).mono ?_
  rintro e w2 ⟨rfl, rfl⟩
  go_wp2_with fail
  with_reducible refine (make_q cs mk st sp wd l (by have := hL.out; omega) _ T1.out).mono ?_
  rintro e w2 ⟨any, a, b, cc, d, e5, t, q, rfl, b2, hany, hQ⟩
  clear hany
  clear o0 o1 o2 o3 o4
  by_cases hE : mkE l sp wd = 0
  · have HQ := Lib.hid (hQ hE)
    obtain ⟨m, hm⟩ : ∃ m, m = matQ l cs mk st sp wd := ⟨_, rfl⟩
    obtain ⟨p, hp⟩ : ∃ p, p = preQ l cs mk st sp wd := ⟨_, rfl⟩
    have HBG : Hid (∀ u, m u = true → p <+: u) := fun u h => by rw [hm] at h; rw [hp]; exact begins_m l u cs mk st sp wd h
    rw [← hm, ← hp] at HQ
    rw [hE]
    obtain ⟨tt, htt⟩ : ∃ tt, tt = strOf t := ⟨_, rfl⟩
    rw [← htt] at HQ ⊢
    have HTT := Lib.hid htt
    obtain ⟨Y, hY⟩ : ∃ Y, w2.alloc (.cells #[.bool any, .bool a, .bool b, .bool cc, .bool d, .bool e5, .string tt, .pointer q] 29) = Y := ⟨_, rfl⟩
    have bY : Below w2.heap.size w2 Y := by rw [← hY]; exact (Below.refl _ _).alloc (Nat.le_refl _) _
    have sY : Y.heap.size = w2.heap.size + 1 := by rw [← hY]; simp
    have x8 : Wd8 Y w2.heap.size any a b cc d e5 tt q := by rw [← hY]; exact Wd8.new _ _ _ _ _ _ _ _ _ _
    have b1Y := b2.trans (bY.mono b2.size)
    have CY := Lib.hid ((C1.out.below b1Y).more b1Y.size)
    have BY := Lib.hid (B1.out.trans (b1Y.mono B1.out.size))
    have HQY := Lib.hid (HQ.out.keep bY)
    have HY := Lib.hid hY
    have HX8 := Lib.hid x8
    have HSY := Lib.hid sY
    clear b2 hQ hE hm hp htt hY bY sY x8 b1Y C1 T1 HQ
    go_wp2_with fail
    rw [HY.out]
    with_reducible refine (Dc.make_is _ _ _ _ _ HM _ CY.out).mono ?_
    rintro e w3 ⟨A3, n3, c3, rfl, hD3, b3⟩
    obtain ⟨Z, hZ⟩ : ∃ Z, w3.alloc (.cells #[.slice A3 n3 c3] 34) = Z := ⟨_, rfl⟩
    have bZ : Below w3.heap.size w3 Z := by rw [← hZ]; exact (Below.refl _ _).alloc (Nat.le_refl _) _
    have x0 : Z.cell? ⟨w3.heap.size, 0, none⟩ = some (.slice A3 n3 c3) := by rw [← hZ]; have z := new_cells w3 #[.slice A3 n3 c3] 34 (0, 0) 0 _ rfl; rwa [add_addr] at z
    have bYZ := b3.trans (bZ.mono b3.size)
    have DZ := Lib.hid (hD3.keep bZ)
    have BZ := Lib.hid (BY.out.trans (bYZ.mono BY.out.size))
    have HQZ := Lib.hid (HQY.out.keep bYZ)
    have hn3 : n3 = D.length := hD3.len
    have hn3l := hD3.few
    have HK : Hid (∀ W, Below Z.heap.size Z W → W.cell? ⟨w3.heap.size, 0, none⟩ = some (.slice A3 n3 c3) ∧ Wd8 W w2.heap.size any a b cc d e5 tt q) := fun W hW => ⟨cells_below hW x0, (HX8.out.keep bYZ).keep hW⟩
    have BR := Lib.hid (Below.refl Z.heap.size Z)
    have k8 := HK.out Z BR.out
    obtain ⟨y0, y1, y2, y3, y4, y5, y6, y7, y8⟩ := k8
    have HZ := Lib.hid hZ
    have HN3 := Lib.hid hn3
    obtain ⟨GL, hGL⟩ : ∃ GL, GL = (gotL D m 0 D.length).length := ⟨_, rfl⟩
    have KG := dmatch_any A3 n3 c3 D HR any a b cc d e5 t q m p HBG Z DZ.out (by unfold wdV; rw [← HTT.out]; exact HQZ)
    unfold wdV at KG
    rw [← HTT.out, ← hGL] at KG
    have HKG := Lib.hid KG
    have HGL := Lib.hid hGL
    clear hD3 b3 hZ bZ x0 bYZ hn3 HM CY BY HQY HX8 HSY KG hGL
    go_upto_region 9 with fail
    rw [HZ.out]
    go_wp2_with fail
    with_reducible refine HKG.out.mono ?_
    rintro e w4 ⟨A6, c6, rfl, hg4, b4⟩
    have HG4 := Lib.hid hg4
    have HB4 := Lib.hid b4
    have HN4 : Hid (n3 = D.length) := HN3.out
    clear hg4 b4 y0 y1 y2 y3 y4 y5 y6 y7 y8 HKG
    go_wp2_with fail
    go_loopw [11, 12] (fun s11 s12 wr => ∃ k ct : Nat, k ≤ n3 ∧ s12 = .int .i64 k ∧ s11 = .int .i64 ct ∧ Hid (ct = (gotL D m 0 k).length) ∧ Hid (Below w4.heap.size w4 wr)) (fun _ i _ => n3 - (intOf i).toNat)
    case atStart => exact ⟨0, 0, Nat.zero_le _, rfl, rfl, rfl, Below.refl _ _⟩
    case round =>
      obtain ⟨k, ct, hk, rfl, rfl, HCT, HBr⟩ := hrel
      have BZr := Lib.hid (HB4.out.trans (HBr.out.mono HB4.out.size))
      have k8 := HK.out wr BZr.out
      obtain ⟨y0, y1, y2, y3, y4, y5, y6, y7, y8⟩ := k8
      have KL := Lib.hid (Dc.len_any A3 n3 c3 wr)
      by_cases hlt : k < n3
      · have hltI : decide ((k : Int) < (n3 : Int)) = true := decide_eq_true (by omega)
        have hkd : k < D.length := by rw [← HN4.out]; exact hlt
        have HLT := Lib.hid hlt
        go_upto_region 14 with (go_at_call 9; (with_reducible refine KL.out.mono ?_); rintro e w5 ⟨rfl, b5⟩; have HB5 := Lib.hid (HBr.out.trans (b5.mono HBr.out.size)); have BZ5 := Lib.hid (BZr.out.trans (b5.mono BZr.out.size)); clear b5)
        obtain ⟨sx, hsx⟩ : ∃ sx, sx = (⟨D[k].toArray⟩ : ByteArray) := ⟨_, rfl⟩
        obtain ⟨mb, hmb⟩ : ∃ mb, mb = m D[k] := ⟨_, rfl⟩
        have hsn := gotL_snoc D m 0 k
        rw [Nat.zero_add, List.getD_eq_getElem?_getD, List.getElem?_eq_getElem hkd] at hsn
        simp only [Option.getD_some] at hsn
        rw [← hmb] at hsn
        have happ : gotL D m 0 D.length = gotL D m 0 (k + 1) ++ gotL D m (0 + (k + 1)) (D.length - (k + 1)) := by rw [← gotL_app, show k + 1 + (D.length - (k + 1)) = D.length by omega]
        rw [hsn] at happ
        have HSN := Lib.hid hsn
        have HAP := Lib.hid happ
        have KW : Hid (∀ W, Below w5.heap.size w5 W → Calls Tryz.prog 11 #[.agg #[.slice A3 n3 c3], .int .i64 (k : Int)] W fun e w' => e = .returned (.string sx) ∧ Below w5.heap.size w5 w') := fun W hW => by
          rw [hsx]
          exact (Dc.word_is A3 n3 c3 D k D[k] (List.getElem?_eq_getElem hkd) W (DZ.out.keep (BZ5.out.trans (hW.mono BZ5.out.size)))).mono fun e w' h => ⟨h.1, hW.trans (h.2.mono hW.size)⟩
        have KM : Hid (∀ W, Below w5.heap.size w5 W → Calls Tryz.prog 10 #[.agg #[.bool any, .bool a, .bool b, .bool cc, .bool d, .bool e5, .string tt, .pointer q], .string sx] W fun e w' => e = .returned (.bool mb) ∧ Below w5.heap.size w5 w') := fun W hW => by
          rw [hsx, hmb]
          exact (HQZ.out.mat W (BZ5.out.trans (hW.mono BZ5.out.size)) D[k] (by have := HR.out.2 D[k] (List.getElem_mem hkd); omega)).mono fun e w' h => ⟨h.1, hW.trans (h.2.mono hW.size)⟩
        have HK5 : Hid (∀ W, Below w5.heap.size w5 W → W.cell? ⟨w3.heap.size, 0, none⟩ = some (.slice A3 n3 c3) ∧ W.cell? ⟨w2.heap.size, 0, none⟩ = some (.bool any) ∧ W.cell? ⟨w2.heap.size, 1, none⟩ = some (.bool a) ∧ W.cell? ⟨w2.heap.size, 2, none⟩ = some (.bool b) ∧ W.cell? ⟨w2.heap.size, 3, none⟩ = some (.bool cc) ∧ W.cell? ⟨w2.heap.size, 4, none⟩ = some (.bool d) ∧ W.cell? ⟨w2.heap.size, 5, none⟩ = some (.bool e5) ∧ W.cell? ⟨w2.heap.size, 6, none⟩ = some (.string tt) ∧ W.cell? ⟨w2.heap.size, 7, none⟩ = some (.pointer q)) := fun W hW => HK.out W (BZ5.out.trans (hW.mono BZ5.out.size))
        have BR5 := Lib.hid (Below.refl w5.heap.size w5)
        have wk : IntKind.i64.wrap ((k : Int) + 1) = (k : Int) + 1 := by rw [IntKind.wrap_i64]; omega
        clear hsx hmb hsn happ y0 y1 y2 y3 y4 y5 y6 y7 y8 hkd KL
        go_region_held3 (fun W => W.cell? ⟨w3.heap.size, 0, none⟩ = some (.slice A3 n3 c3) ∧ W.cell? ⟨w2.heap.size, 0, none⟩ = some (.bool any) ∧ W.cell? ⟨w2.heap.size, 1, none⟩ = some (.bool a) ∧ W.cell? ⟨w2.heap.size, 2, none⟩ = some (.bool b) ∧ W.cell? ⟨w2.heap.size, 3, none⟩ = some (.bool cc) ∧ W.cell? ⟨w2.heap.size, 4, none⟩ = some (.bool d) ∧ W.cell? ⟨w2.heap.size, 5, none⟩ = some (.bool e5) ∧ W.cell? ⟨w2.heap.size, 6, none⟩ = some (.string tt) ∧ W.cell? ⟨w2.heap.size, 7, none⟩ = some (.pointer q))
          (first | exact HK5.out _ BR5.out.drew | exact HK5.out _ b6 | exact HK5.out _ b7)
          (first
            | (go_at_call 11; (with_reducible refine (KW.out _ BR5.out.drew).mono ?_); rintro e w6 ⟨rfl, b6⟩)
            | (go_at_call 10; (with_reducible refine (KM.out _ b6).mono ?_); rintro e w7 ⟨rfl, b7⟩))
        all_goals
          have HB7 := Lib.hid (HB5.out.trans (b7.mono HB5.out.size))
          clear b6 b7
          cases mb
          · have HC' : Hid (ct = (gotL D m 0 (k + 1)).length) := by show _ = _; rw [HSN.out]; simp [HCT.out]
            go_wp2_with fail
            exact ⟨⟨k + 1, ct, HLT.out, by go_num, rfl, HC', HB7⟩, by have := HLT.out; simp [intOf]; omega⟩
          · have HC' : Hid (ct + 1 = (gotL D m 0 (k + 1)).length) := by show _ = _; rw [HSN.out]; simp [HCT.out]
            have hctl : ct < GL := by rw [HGL.out, HAP.out, HCT.out]; simp
            have hat : (gotL D m 0 D.length)[ct]? = some k := by
              rw [HAP.out, HCT.out, List.append_assoc, List.getElem?_append_right (Nat.le_refl _), Nat.sub_self]
              rfl
            obtain ⟨bg, og, rfl, hbg, hcg⟩ := HG4.out (by rw [ciN_len, ← HGL.out]; omega)
            have hcell : w4.cell? ⟨bg, og + ct, none⟩ = some (.int .i64 (k : Int)) := hcg ct _ (by unfold ciN; rw [List.getElem?_map, hat]; rfl)
            have hc7 := (HB7.out.cell (p := ⟨bg, og + ct, none⟩) hbg).trans hcell
            have hge : decide ((GL : Int) ≤ (ct : Int)) = false := decide_eq_false (by omega)
            have hctI : (ct : Int) < (GL : Int) := by omega
            have hct1000 : ct ≤ 1000 := by rw [HCT.out]; have := gotL_len D m 0 k; omega
            have wc : IntKind.i64.wrap ((ct : Int) + 1) = (ct : Int) + 1 := by rw [IntKind.wrap_i64]; omega
            clear hat hbg hcg hcell
            go_wp2_with fail
            exact ⟨⟨k + 1, ct + 1, HLT.out, by go_num, by go_num, HC', HB7⟩, by have := HLT.out; simp [intOf]; omega⟩
      · obtain rfl : n3 = k := by omega
        have hltI : decide ((n3 : Int) < (n3 : Int)) = false := decide_eq_false (by omega)
        have hce : ct = GL := by rw [HCT.out, HGL.out, HN4.out]
        subst hce
        go_wp2_with (go_at_call 9; (with_reducible refine KL.out.mono ?_); rintro e w5 ⟨rfl, b5⟩; have HB5 := Lib.hid (BZr.out.trans (b5.mono BZr.out.size)); clear b5)
        have HF := Lib.hid (BZ.out.trans (HB5.out.mono BZ.out.size))
        go_ret
        exact ⟨rfl, HF.out⟩
  · have hEb : ((mkE l sp wd) == 0) = false := beq_eq_false_iff_ne.2 hE
    have B2 := Lib.hid (B1.out.trans (b2.mono B1.out.size))
    clear b2 hQ
    go_wp2_with fail
    go_ret
    exact ⟨rfl, (by first | exact B2.out | exact (B2.out.trans (((Below.refl w2.heap.size w2).alloc (Nat.le_refl _) _).mono B2.out.size)))⟩
end Go.Proofs.YtjeccmmhmdgdgaaGreatDoor
