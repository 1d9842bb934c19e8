/- slices.Collect, SortFunc, SortedFunc at spans; match.sorted: whatever order. -/
import Derived.Test.YtafbjadlklcicaaMaVs
import Derived.Test.YtafbjadlklcicaaMaTo
import Derived.Test.YtafbjadlklcicaaSort
import Derived.Shelf.SlSortCmp.WholeK
import Derived.Shelf.SlSortCmp.NoneTotal
import Derived.Laws.EntriesVeiled
namespace Go.Proofs.Ytafbjadlklcicaa
open Go.RowKit Go.Shelf
set_option maxRecDepth 100000

theorem apseq_any (Bs cap : Nat) (A : Option Addr) (xs : List Sp) (hreach : xs.length ≤ 1000000) (w : World) (hBs : Bs < w.heap.size) (hc : w.cell? ⟨Bs, 0, none⟩ = some (.slice A xs.length cap)) (hI : CS w w.heap.size A (spCs xs)) :
    Calls Try.prog 92 #[.slice none 0 0, .func (.func 89) #[] #[.pointer (some ⟨Bs, 0, none⟩)]] w fun e W' => ∃ v, e = .returned v ∧ W'.ownsRow w.heap.size 26 4 v xs.length (spCs xs) ∧ (v = .slice none 0 0 ↔ xs = []) ∧ Below w.heap.size w W' := (callsIn_wide (n := 4)).1 (apseq_in 4 (by omega) Bs cap A xs hreach w hBs hc hI)
theorem collect_any (Bs cap : Nat) (A : Option Addr) (xs : List Sp) (hreach : xs.length ≤ 1000000) (w : World) (hBs : Bs < w.heap.size) (hc : w.cell? ⟨Bs, 0, none⟩ = some (.slice A xs.length cap)) (hI : CS w w.heap.size A (spCs xs)) :
    Calls Try.prog 88 #[.func (.func 89) #[] #[.pointer (some ⟨Bs, 0, none⟩)]] w fun e W' => ∃ v, e = .returned v ∧ RW W' w.heap.size v xs ∧ Below w.heap.size w W' := by
  have cA := Lib.hid (apseq_any Bs cap A xs hreach w hBs hc hI)
  clear hBs hc hI
  go_enter Try.func88, Try.ntmps88
  go_wp2_with (go_at_call 92; refine cA.out.mono ?_; rintro e w' ⟨v, rfl, h2, h3, h4⟩)
  go_ret
  exact ⟨v, rfl, h2, h4⟩
theorem values_any (A : Option Addr) (len cap : Nat) (w : World) :
    Calls Try.prog 71 #[.slice A len cap] w fun e w' => e = .returned (.func (.func 89) #[] #[.pointer (some ⟨w.heap.size, 0, none⟩)]) ∧ w' = w.alloc (.cells #[.slice A len cap] 28) := (callsIn_wide (n := 1)).1 (values_in 1 A len cap w)
/-- A function value that compares spans. -/
def CmpOf (F : Nat) (cf : Sp → Sp → Int) : Prop :=
  (∀ args W, (callFunc F args).run Try.prog W = .ok (.enter F args) W) ∧
  ∀ x y W, Calls Try.prog F #[.agg (spC x).toArray, .agg (spC y).toArray] W fun e w' => e = .returned (.int .i64 (cf x y)) ∧ ∃ q os', w' = Go.Sort.grow (W.drewN q) os'
theorem sortg_any (F : Nat) (cf : Sp → Sp → Int) (swo : Go.Sort.SWO (ltOf cf)) (hF : CmpOf F cf) (W : World) (base : Nat) (A : Option Addr) (n c : Nat) (l : List Sp) (ho : W.ownsRow base 26 4 (.slice A n c) n (spCs l)) (hn : n ≤ 1000000) :
    Calls Try.prog 82 #[.slice A n c, .func (.func F) #[] #[]] W fun e w' => e = .returned (.tuple #[]) ∧ ∃ l', List.Perm l' l ∧ l'.Pairwise (fun a b => ltOf cf b a = false) ∧ w'.ownsRow base 26 4 (.slice A n c) n (spCs l') ∧ W.grownBy w' (Value.slice A n c).ownBlock := by
  have hl : n = l.length := by have := ho.1; rw [spCs_len] at this; omega
  rcases ho.2 with ⟨e, h⟩ | ⟨g, cap, cur, e, hg, hh, h1, h2, h3, h4⟩
  · injection e with e1 e2 e3
    subst e1 e2 e3
    have h := AnyF.slices_SortFunc_none Try.sortS none 0 (.func (.func F) #[] #[]) W
    change Calls Try.prog 82 _ _ _ at h
    refine h.mono fun e w' ⟨he, hw⟩ => ?_
    subst hw
    have hl0 : l = [] := List.length_eq_zero_iff.1 hl.symm
    subst hl0
    exact ⟨he, [], List.Perm.refl _, List.Pairwise.nil, ho, World.grownBy.refl _ _⟩
  · injection e with e1 e2 e3
    subst e1 e3
    have hO : OB W base g n c cur l := ⟨hg, hh, h1, h2, h3, h4, hl⟩
    have hgw : g < W.heap.size := (Array.getElem?_eq_some_iff.1 hh).1
    have hcon := AnyQ.slices_SortFunc Try.sortS 4 Try.isAgg26 Try.sizeOf26 spC (fun _ => rfl) spC_one cf swo F #[] g 0 c l.toArray W hF.1 (fun _ _ _ _ x y => hF.2 x y _) hO.holds hgw (by simp; omega)
    change Calls Try.prog 82 _ _ _ at hcon
    have hsz : l.toArray.size = n := by simp [hl]
    rw [hsz] at hcon
    refine hcon.mono fun e w' ⟨he, d', m, os, hp, hs, hw⟩ => ?_
    obtain ⟨hd, _, hp⟩ := hp
    have hdl : d'.size = l.length := by rw [hd]; simp
    have e1 : (d'.extract 0 n).toList = d'.toList := by rw [Array.toList_extract]; simp [List.take_of_length_le, hdl, hl]
    have e2 : ((l.toArray).extract 0 n).toList = l := by rw [Array.toList_extract]; simp [hl]
    rw [e1, e2] at hp
    obtain ⟨o1, o2⟩ := hO.sorted (l' := d'.toList) (m := m) (os := os) (by simpa using hdl)
    rw [Array.toArray_toList] at o1 o2
    rw [← hw] at o1 o2
    refine ⟨he, d'.toList, hp, List.pairwise_iff_getElem.2 fun i j hi hj hij => ?_, o1, o2⟩
    have hi' : i < d'.size := by simpa using hi
    have hj' : j < d'.size := by simpa using hj
    have := hs i j (Nat.zero_le _) hij (by omega)
    rw [getElem!_pos _ i hi', getElem!_pos _ j hj'] at this
    simpa using this
theorem sortedf_any (F : Nat) (cf : Sp → Sp → Int) (swo : Go.Sort.SWO (ltOf cf)) (hF : CmpOf F cf) (Bs cap : Nat) (A : Option Addr) (l : List Sp) (hl : l.length ≤ 1000000) (w : World) (hBs : Bs < w.heap.size) (hc : w.cell? ⟨Bs, 0, none⟩ = some (.slice A l.length cap)) (hI : CS w w.heap.size A (spCs l)) :
    Calls Try.prog 70 #[.func (.func 89) #[] #[.pointer (some ⟨Bs, 0, none⟩)], .func (.func F) #[] #[]] w fun e w' => ∃ u l', e = .returned u ∧ List.Perm l' l ∧ l'.Pairwise (fun a b => ltOf cf b a = false) ∧ RW w' w.heap.size u l' ∧ Below w.heap.size w w' := by
  have KC := Lib.hid (collect_any Bs cap A l hl w hBs hc hI)
  have HL := Lib.hid hl
  clear hBs hc hI hl
  go_enter Try.func70, Try.ntmps70
  go_upto_region 2 with (with_reducible refine KC.out.mono ?_; rintro e w1 ⟨v, rfl, h2, h4⟩)
  obtain ⟨C, d, rfl, _⟩ := own_form h2
  have KS := Lib.hid (sortg_any F cf swo hF w1 w.heap.size C l.length d l h2 HL.out)
  have HB := Lib.hid h4
  have HO := Lib.hid h2
  clear h2 h4 KC
  obtain ⟨n, hn⟩ : ∃ n, n = l.length := ⟨_, rfl⟩
  rw [← hn] at KS HO ⊢
  have HN := Lib.hid hn
  clear hn
  go_wp2_with fail
  with_reducible refine KS.out.mono ?_
  rintro e w2 ⟨rfl, l', hp, hs, ho, hg⟩
  have HF : Hid (∃ u l', Ending.returned (Value.slice C n d) = .returned u ∧ List.Perm l' l ∧ l'.Pairwise (fun a b => ltOf cf b a = false) ∧ RW w2 w.heap.size u l' ∧ Below w.heap.size w w2) := ⟨_, l', rfl, hp, hs, by unfold RW; rw [hp.length_eq, ← HN.out]; exact ho, own_grow HO.out (Nat.le_refl _) HB.out HB.out.size hg⟩
  clear hp hs ho hg KS
  go_wp2_with fail
  go_ret
  exact HF.out
theorem sorted_any (F : Nat) (cf : Sp → Sp → Int) (swo : Go.Sort.SWO (ltOf cf)) (hF : CmpOf F cf) (v : Value) (l : List Sp) (hl : l.length ≤ 1000000) (w : World) (h : SV w w.heap.size v l) :
    Calls Try.prog 38 #[v, .func (.func F) #[] #[]] w fun e w' => ∃ u l', e = .returned u ∧ List.Perm l' l ∧ l'.Pairwise (fun a b => ltOf cf b a = false) ∧ RW w' w.heap.size u l' ∧ Below w.heap.size w w' := by
  obtain ⟨A, c, rfl, h1, h2, h3⟩ := h
  obtain ⟨X, hX⟩ : ∃ X, w.alloc (.cells #[.slice A l.length c] 28) = X := ⟨_, rfl⟩
  have bX : Below w.heap.size w X := by rw [← hX]; exact (Below.refl _ _).alloc (Nat.le_refl _) _
  have sX : w.heap.size < X.heap.size := by rw [← hX]; simp
  have q0 : X.cell? ⟨w.heap.size, 0, none⟩ = some (.slice A l.length c) := by rw [← hX]; exact new_cells w #[.slice A l.length c] 28 (0, 0) 0 _ rfl
  have KV := Lib.hid (values_any A l.length c w)
  have KS := Lib.hid (sortedf_any F cf swo hF w.heap.size c A l hl X sX q0 ((h3.below bX).more bX.size))
  have HX := Lib.hid hX
  have HB := Lib.hid bX
  obtain ⟨n, hn⟩ : ∃ n, n = l.length := ⟨_, rfl⟩
  rw [← hn] at KV HX ⊢
  clear h1 h2 h3 hX bX sX q0 hl hn
  go_enter Try.func38, Try.ntmps38
  go_wp2_with fail
  with_reducible refine KV.out.mono ?_
  rintro e w1 ⟨rfl, rfl⟩
  rw [HX.out]
  go_wp2_with fail
  with_reducible refine KS.out.mono ?_
  rintro e w2 ⟨u, l', rfl, hp, hs, ho, hb⟩
  have HF : Hid (∃ u' l', Ending.returned u = .returned u' ∧ List.Perm l' l ∧ l'.Pairwise (fun a b => ltOf cf b a = false) ∧ RW w2 w.heap.size u' l' ∧ Below w.heap.size w w2) := ⟨_, l', rfl, hp, hs, own_le ho HB.out.size, HB.out.trans (hb.mono HB.out.size)⟩
  clear hp hs ho hb KS KV
  go_wp2_with fail
  go_ret
  exact HF.out
end Go.Proofs.Ytafbjadlklcicaa
