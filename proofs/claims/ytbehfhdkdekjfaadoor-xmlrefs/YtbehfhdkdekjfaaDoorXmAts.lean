/- The reader's attrs. -/
import Derived.Test.YtbehfhdkdekjfaaDoorXmCf
import Derived.Deep.RegionLaw
import Derived.Deep.AppendLies
import Derived.BigRegion
import Derived.OwnWalk
namespace Go.Proofs.YtbehfhdkdekjfaaDoor
open Go.RowKit
set_option maxRecDepth 100000

theorem info_attr : (Tryd.prog.info? 41).map (fun i => (i.zero, i.size, i.bytes)) = some (some (.agg #[.string ⟨#[]⟩, .string ⟨#[]⟩]), 2, 32) := by kernel_rfl
theorem at_one (a : At) : ∀ u ∈ ([.string (strOf a.1), .string (strOf a.2)] : List Value), u.oneCell' = true := by
  intro u hu
  simp only [List.mem_cons, List.not_mem_nil, or_false] at hu
  rcases hu with rfl | rfl <;> rfl
theorem own_ge {w : World} {base : Nat} {t : TypeId} {size : Nat} {v : Value} {n : Nat} {xs : List Value} (h : w.ownsRow base t size v n xs) : ∀ k, v.ownBlock = some k → base ≤ k := fun k hk => by
  obtain ⟨_, _, _, _, _, _, hb⟩ := own_form h
  exact (hb k hk).1
/-- A row of attributes at v, of blocks from base on. -/
def AtRow (w : World) (base : Nat) (v : Value) (xs : List At) : Prop := w.ownsRow base 41 2 v xs.length (atCells xs)
theorem wpList_appendA {ops : Array Oper} {rest : List Oper} {o : Oper} {a : Act} {Q : Exit → Act → World → Prop} (wr : World) (hgd : o.guard = none) (s x : Operand)
    (ho : o.op = .call { callee := .builtin .append, args := #[s, x], argTypes := #[28, 28] })
    (base : Nat) (v : Value) (xs : List At) (y : At) (hs : a.eval s = v) (hx : a.eval x = .slice (some ⟨wr.heap.size, 0, none⟩) 1 1) (hown : AtRow wr base v xs) (hbase : base ≤ wr.heap.size) (hn : xs.length ≤ 1000000)
    (h : ∀ v' w', AtRow w' base v' (xs ++ [y]) → (wr.alloc (.cells #[.string (strOf y.1), .string (strOf y.2)] 41)).grownBy w' v.ownBlock → wpList Tryd.prog ops Q rest (a.put o.dst v') w') :
    wpList Tryd.prog ops Q (o :: rest) a (wr.alloc (.cells #[.string (strOf y.1), .string (strOf y.2)] 41)) := by
  obtain ⟨i0, hi, hz0, hz1, hz2⟩ := info_parts info_attr
  have hownA : (wr.alloc (.cells #[.string (strOf y.1), .string (strOf y.2)] 41)).ownsRow base 41 2 v xs.length (atCells xs) := own_below hown ((Below.refl _ _).alloc (Nat.le_refl _) _)
  refine wpList_append_own_at _ hgd s x 28 ho base 41 i0 _ 2 32 Tryd.underlying28 hi hz0 hz1 hz2 rfl (by omega) v xs.length (atCells xs) hs hownA ⟨wr.heap.size, 0, none⟩ 1 1 [.string (strOf y.1), .string (strOf y.2)] hx rfl (new_cells wr #[.string (strOf y.1), .string (strOf y.2)] 41 (0, 0)) (at_one y) (by unfold maxLen; omega) (by omega) (by simp; omega) ?_
  intro v' w' h2 h3 h4 h5
  refine h v' w' ?_ h3
  unfold AtRow
  rw [List.length_append, atCells_snoc]
  exact h2
def AtsPost (R len : Nat) (o : Option (List At × L8)) (w : World) (e : Ending) (w' : World) : Prop :=
  Mv w w' R ∧ ((∃ xs r v, o = some (xs, r) ∧ e = .returned (.tuple #[v, .int .i64 0]) ∧ Rst w' R r ∧ V8 r ∧ r.length ≤ len ∧ AtRow w' w.heap.size v xs) ∨ (o = none ∧ e = .returned (.tuple #[.slice none 0 0, .int .i64 11]) ∧ ∃ l', Rst w' R l'))
set_option maxHeartbeats 4000000 in
theorem attrs_any (R : Nat) (l : L8) (hl : l.length ≤ 1000000) (hv : V8 l) (w : World) (h : Rst w R l) (hE : Env w) :
    Calls Tryd.prog 55 #[.pointer (some ⟨R, 0, none⟩)] w (AtsPost R l.length (attrsL (l.length + 1) l []) w) := by
  obtain ⟨i0, hi, hz0, hz1, hz2⟩ := info_parts info_attr
  have HE := Lib.hid hE
  have H := Lib.hid h
  have HV := Lib.hid hv
  clear h hE hv
  have HRb : Hid (R < w.heap.size) := H.out.lt
  go_enter Tryd.func55, Tryd.ntmps55
  go_wp2_with fail
  go_loopg [4] l.length (fun gg sv wr => ∃ (v : Value) (t : L8) (acc : List At) (f : Nat), v = sv ∧ t.length ≤ gg ∧ t.length < f ∧ t.length ≤ l.length ∧ acc.length ≤ l.length - t.length ∧ Hid (Rst wr R t) ∧ Hid (Mv w wr R) ∧ Hid (AtRow wr w.heap.size v acc) ∧ Hid (V8 t) ∧ Hid (attrsL f t acc = attrsL (l.length + 1) l []))
  case atStart => exact ⟨_, l, [], l.length + 1, rfl, Nat.le_refl _, Nat.lt_succ_self _, Nat.le_refl _, by simp, H, Mv.refl _ _, ⟨rfl, .inl ⟨rfl, rfl⟩⟩, HV, rfl⟩
  case round =>
    obtain ⟨v, t, acc, f, hsv, htg, htf, htl, hacc, HR, HM, HO, HVt, HB⟩ := hrel
    subst hsv
    have htl' : t.length ≤ 1000000 := by omega
    obtain ⟨f, rfl⟩ : ∃ f', f = f' + 1 := ⟨f - 1, by omega⟩
    have HB2 : Hid (attrsL (l.length + 1) l [] = if [62].isPrefixOf (skipB t) ∨ [47].isPrefixOf (skipB t) then some (acc, skipB t)
      else if hasB t = false then none
      else match attrL (skipB t) with
        | none => none
        | some (a, r) => if acc.any (fun b => b.1 == a.1) then none else attrsL f r (acc ++ [a])) := by show _ = _; rw [← HB.out]; rfl
    have hsk := skip_len t
    have HVs := Lib.hid (v_skip HVt.out)
    clear HB HVt
    go_wp2_with fail
    refine (blanks_any R t htl' wr HR.out).mono ?_
    rintro e w1 ⟨rfl, m1, r1⟩
    have hc1 := r1.cell
    have HM1 := Lib.hid (HM.out.trans m1)
    have HO1 : Hid (AtRow w1 w.heap.size v acc) := own_mv HO.out m1 HRb.out
    have HE1 := Lib.hid (HE.out.mv H.out.ge HM1.out)
    clear HM HO m1 HR
    generalize skipB t = s at *
    go_wp2_with fail
    refine (hp_any [62] s w1).mono ?_
    rintro e w2 ⟨rfl, rfl⟩
    cases h62 : ([62] : L8).isPrefixOf s with
    | true =>
      rw [if_pos (.inl h62)] at HB2
      clear h62
      go_wp2_with fail
      go_ret2
      exact ⟨HM1.out, .inl ⟨acc, s, v, HB2.out, rfl, r1, HVs.out, by omega, HO1.out⟩⟩
    | false =>
    go_wp2_with fail
    refine (hp_any [47] s w2).mono ?_
    rintro e w3 ⟨rfl, rfl⟩
    cases h47 : ([47] : L8).isPrefixOf s with
    | true =>
      rw [if_pos (.inr h47)] at HB2
      clear h62 h47
      go_wp2_with fail
      go_ret2
      exact ⟨HM1.out, .inl ⟨acc, s, v, HB2.out, rfl, r1, HVs.out, by omega, HO1.out⟩⟩
    | false =>
    rw [if_neg (by rw [h62, h47]; simp)] at HB2
    clear h62 h47
    cases hb : hasB t with
    | false =>
      rw [if_pos hb] at HB2
      go_wp2_with fail
      go_ret2
      exact ⟨HM1.out, .inr ⟨HB2.out, rfl, _, r1⟩⟩
    | true =>
    rw [if_neg (by rw [hb]; simp)] at HB2
    have hsl : s.length ≤ 1000000 := by omega
    go_wp2_with fail
    refine (attr_any R s hsl HVs.out w3 r1 HE1.out).mono ?_
    rintro e w4 ⟨m4, ⟨a, r, hn, rfl, r4, hv4, hl4⟩ | ⟨hn, a, rfl, l', r4⟩⟩
    · rw [hn] at HB2
      have HB3 : Hid (attrsL (l.length + 1) l [] = if acc.any (fun b => b.1 == a.1) then none else attrsL f r (acc ++ [a])) := HB2
      have HO4 : Hid (AtRow w4 w.heap.size v acc) := own_mv HO1.out m4 HRb.out
      have HM4 := Lib.hid (HM1.out.trans m4)
      clear hn HB2 HO1 HM1 m4
      unfold atV
      obtain ⟨a1, a2⟩ := a
      simp only at HB3 ⊢
      have hb5 : Below w4.heap.size w4 (w4.alloc (.cells #[.string (strOf a1), .string (strOf a2)] 41)) := (Below.refl _ _).alloc (Nat.le_refl _) _
      have hx5 := Bx.new w4 (.string (strOf a1)) (.string (strOf a2)) 41
      have HR5 := Lib.hid (r4.below hb5)
      have HM5 := Lib.hid (HM4.out.trans (Mv.of r4.lt hb5))
      have HO5 : Hid (AtRow (w4.alloc (.cells #[.string (strOf a1), .string (strOf a2)] 41)) w.heap.size v acc) := own_below HO4.out hb5
      have hs5 : w4.heap.size < (w4.alloc (.cells #[.string (strOf a1), .string (strOf a2)] 41)).heap.size := by simp
      have hs4 : w.heap.size ≤ w4.heap.size := HM4.out.size
      clear HO4 HM4 r4 hb5
      obtain ⟨A, c, hvv, hac, hcm, hcs, _⟩ := own_form HO5.out
      subst hvv
      go_wp2_with fail
      generalize w4.alloc (.cells #[.string (strOf a1), .string (strOf a2)] 41) = w5 at *
      refine (cf_any acc a1 A c w4.heap.size w5 (by omega) hx5.c0 hcs).mono ?_
      rintro e w6 ⟨rfl, b6⟩
      have HR6 := Lib.hid (HR5.out.below b6)
      have HM6 := Lib.hid (HM5.out.trans (Mv.of HR5.out.lt b6))
      have HO6 : Hid (AtRow w6 w.heap.size (.slice A acc.length c) acc) := own_below HO5.out b6
      have p0 := (b6.cell (p := ⟨w4.heap.size, 0, none⟩) hs5).trans hx5.c0
      have p1 := (b6.cell (p := ⟨w4.heap.size, 1, none⟩) hs5).trans hx5.c1
      have hs6 : w4.heap.size < w6.heap.size := Nat.lt_of_lt_of_le hs5 b6.size
      clear hx5 HR5 HM5 HO5 b6 hcs hs5
      cases hany : acc.any (fun b => b.1 == a1) with
      | true =>
        rw [if_pos hany] at HB3
        go_wp2_with fail
        go_ret2
        exact ⟨HM6.out, .inr ⟨HB3.out, rfl, _, HR6.out⟩⟩
      | false =>
        rw [if_neg (by rw [hany]; simp)] at HB3
        clear hany
        have hcm' : c ≤ 9223372036854775807 := by unfold maxLen at hcm; omega
        go_wp2_with (
          (at_builtin
           refine wpList_appendA w6 rfl (.tmp 36) (.tmp 38) rfl w.heap.size (.slice A acc.length c) acc (a1, a2) rfl rfl HO6.out HM6.out.size (by omega) ?_
           intro v7 w7 ho7 hg7))
        have hb7 : Below w6.heap.size w6 (w6.alloc (.cells #[.string (strOf a1), .string (strOf a2)] 41)) := (Below.refl _ _).alloc (Nat.le_refl _) _
        have hge := own_ge HO6.out
        have hMA := HM6.out.trans (Mv.of HR6.out.lt hb7)
        have hRA := HR6.out.below hb7
        go_roundg r.length
        case rel => exact ⟨v7, r, acc ++ [(a1, a2)], f, rfl, Nat.le_refl _, by omega, by omega, by rw [List.length_append]; simp only [List.length_cons, List.length_nil]; omega, hRA.grown hg7 (fun e => by have := hge R e; have := HRb.out; omega), hMA.grown HRb.out hg7 hge, ho7, hv4, HB3.out.symm⟩
        case measure => omega
    · rw [hn] at HB2
      clear hn
      unfold atV
      go_wp2_with fail
      go_ret2
      have hb5 : Below w4.heap.size w4 (w4.alloc (.cells #[.string (strOf a.1), .string (strOf a.2)] 41)) := (Below.refl _ _).alloc (Nat.le_refl _) _
      exact ⟨(HM1.out.trans m4).trans (Mv.of r4.lt hb5), .inr ⟨HB2.out, rfl, _, r4.below hb5⟩⟩
end Go.Proofs.YtbehfhdkdekjfaaDoor
