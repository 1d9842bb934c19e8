/- slices.SortFunc at spans, by where they begin. -/
import Derived.Test.YtafbjadlklcicaaMaCv
import Derived.Test.YtafbjadlklcicaaSort
import Derived.Shelf.SlSortCmp.WholeK
import Derived.Shelf.SlSortCmp.NoneTotal
import Derived.Shelf.SlicesG.Cmp
namespace Go.Proofs.Ytafbjadlklcicaa
open Go.RowKit Go.Shelf
set_option maxRecDepth 100000

def cfS (x y : Sp) : Int := Lib.compareInt x.1 y.1
theorem ltS (x y : Sp) : ltOf cfS x y = decide (x.1 < y.1) := by
  unfold ltOf cfS Lib.compareInt
  by_cases h1 : x.1 < y.1
  · simp [h1]
  · by_cases h2 : y.1 < x.1 <;> simp [h1, h2]
theorem swoS : Go.Sort.SWO (ltOf cfS) where
  irrefl x := by rw [ltS]; simp
  trans x y z h1 h2 := by rw [ltS] at *; simp at *; omega
  ntrans x y z h1 h2 := by rw [ltS] at *; simp at *; omega
set_option maxHeartbeats 1000000 in
theorem cv1_any (x y : Sp) (W : World) : Calls Try.prog 83 #[.agg (spC x).toArray, .agg (spC y).toArray] W fun e w' => e = .returned (.int .i64 (cfS x y)) ∧ ∃ q os', w' = Go.Sort.grow (W.drewN q) os' := by
  obtain ⟨x0, x1, x2, x3⟩ := x
  obtain ⟨y0, y1, y2, y3⟩ := y
  have hcon := fun W' => AnyG.cmp_Compare_int Try.cmpI x0 y0 W'
  change ∀ W', Calls Try.prog 41 _ _ _ at hcon
  show Calls _ _ #[.agg #[.int .i64 x0, .int .i64 x1, .int .i64 x2, .int .i64 x3], .agg #[.int .i64 y0, .int .i64 y1, .int .i64 y2, .int .i64 y3]] W fun e w' => e = .returned (.int .i64 (Lib.compareInt x0 y0)) ∧ _
  generalize Lib.compareInt x0 y0 = r at hcon ⊢
  go_enter Try.func83, Try.ntmps83
  go_wp2_with (go_at_call 41; refine (hcon _).mono ?_; rintro e w' ⟨rfl, rfl⟩)
  go_ret
  exact ⟨rfl, 0, _, by rw [Go.Sort.alloc_eq_grow, Go.Sort.alloc_eq_grow, Go.Sort.grow_grow]; rfl⟩
theorem sorts_own : SortsOwn := by
  intro W base A n c l ho hb hn
  have eg : ∀ args w, (callFunc 83 args).run Try.prog w = .ok (.enter 83 args) w := enters_of Try.func83 (by kernel_rfl) rfl
  have hl : n = l.length := by have := ho.1; rw [spCs_len] at this; omega
  rcases ho.2 with ⟨e, h⟩ | ⟨g, cap, cur, e, hg, hh, h1, h2, h3, h4⟩
  · injection e with e1 e2 e3
    subst e1 e2 e3
    have h := AnyF.slices_SortFunc_none Try.sortS none 0 (.func (.func 83) #[] #[]) W
    change Calls Try.prog 82 _ _ _ at h
    refine h.mono fun e w' ⟨he, hw⟩ => ?_
    subst hw
    have hl0 : l = [] := List.length_eq_zero_iff.1 hl.symm
    subst hl0
    exact ⟨he, [], List.Perm.refl _, fun i j _ h => absurd h (Nat.not_lt_zero _), ho, World.grownBy.refl _ _⟩
  · injection e with e1 e2 e3
    subst e1 e3
    have hO : OB W base g n c cur l := ⟨hg, hh, h1, h2, h3, h4, hl⟩
    have hgw : g < W.heap.size := (Array.getElem?_eq_some_iff.1 hh).1
    have hcon := AnyQ.slices_SortFunc Try.sortS 4 Try.isAgg26 Try.sizeOf26 spC (fun _ => rfl) spC_one cfS swoS 83 #[] g 0 c l.toArray W eg (fun _ _ _ _ x y => cv1_any x y _) hO.holds hgw (by simp; omega)
    change Calls Try.prog 82 _ _ _ at hcon
    have hsz : l.toArray.size = n := by simp [hl]
    rw [hsz] at hcon
    refine hcon.mono fun e w' ⟨he, d', m, os, hp, hs, hw⟩ => ?_
    obtain ⟨hd, _, hp⟩ := hp
    have hdl : d'.size = l.length := by rw [hd]; simp
    have e1 : (d'.extract 0 n).toList = d'.toList := by rw [Array.toList_extract]; simp [List.take_of_length_le, hdl, hl]
    have e2 : ((l.toArray).extract 0 n).toList = l := by rw [Array.toList_extract]; simp [hl]
    rw [e1, e2] at hp
    obtain ⟨o1, o2⟩ := hO.sorted (l' := d'.toList) (m := m) (os := os) (by simpa using hdl)
    rw [Array.toArray_toList] at o1 o2
    rw [← hw] at o1 o2
    refine ⟨he, d'.toList, hp, fun i j hij hj => ?_, o1, o2⟩
    have hj' : j < d'.size := by simpa using hj
    have hx : ∀ k, k < d'.size → d'.toList.getD k (0, 0, 0, 0) = d'[k]! := fun k hk => by
      rw [List.getD_eq_getElem?_getD, List.getElem?_eq_getElem (by simpa using hk), getElem!_pos _ k hk]
      simp
    rw [hx i (by omega), hx j hj']
    rcases Nat.lt_or_ge i j with h | h
    · have := hs i j (Nat.zero_le _) h (by omega)
      rw [ltS] at this
      simpa using this
    · rw [show i = j by omega]
      exact Int.le_refl _
end Go.Proofs.Ytafbjadlklcicaa
