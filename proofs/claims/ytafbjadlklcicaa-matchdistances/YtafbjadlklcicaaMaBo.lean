/- The law's both, and. -/
import Derived.Test.YtafbjadlklcicaaMaGd
namespace Go.Proofs.Ytafbjadlklcicaa
open Go.RowKit
set_option maxRecDepth 100000

set_option maxHeartbeats 1000000 in
theorem both_any (A1 A2 : Option Addr) (n1 c1 n2 c2 N : Nat) (l m : List Sp) (HN : Hid (n1 + n2 = N)) (hN : N ≤ 40000) (w : World) (h1 : SV w w.heap.size (.slice A1 n1 c1) l) (h2 : SV w w.heap.size (.slice A2 n2 c2) m) :
    Calls Try.prog 21 #[.slice A1 n1 c1, .slice A2 n2 c2] w fun e w' => ∃ A' c', e = .returned (.slice A' N c') ∧ SV w' w'.heap.size (.slice A' N c') (l ++ m) ∧ Below w.heap.size w w' ∧ Fr w.heap.size (.slice A' N c') := by
  obtain ⟨e1, k1⟩ := h1.cs
  obtain ⟨e2, k2⟩ := h2.cs
  have E1 := Lib.hid e1
  have E2 := Lib.hid e2
  obtain ⟨X, hX⟩ : ∃ X, w.alloc (.cells #[] 26) = X := ⟨_, rfl⟩
  have bX : Below w.heap.size w X := by rw [← hX]; exact (Below.refl _ _).alloc (Nat.le_refl _) _
  have HO : Hid (X.ownsRow w.heap.size 26 4 (.slice (some ⟨w.heap.size, 0, none⟩) 0 0) 0 []) := by rw [← hX]; exact own_lit w _ 4 (0, 0) rfl
  have HC1 := Lib.hid (k1.below bX)
  have HC2 := Lib.hid k2
  have HX := Lib.hid hX
  have HB := Lib.hid bX
  have hsz := bX.size
  have hn1 : n1 ≤ 40000 := by have := HN.out; omega
  clear hX bX k1 k2 e1 e2 h1 h2
  go_enter Try.func21, Try.ntmps21
  go_wp2_with (first
    | (at_builtin; go_loud (rw [HX.out]; refine wpList_appR elSp X rfl (.tmp 5) (.tmp 6) rfl w.heap.size _ 0 [] rfl HO.out A1 n1 c1 w.heap.size (spCs l) rfl (by rw [spCs_len, E1.out]) (spCs_one l) HC1.out n1 (by omega) (by omega) hsz ?_; intro v4 w4 hown4 hg4 _; have H4 := Lib.hid (And.intro hown4 (own_grow HO.out (Nat.le_refl _) HB.out hsz hg4)); clear hown4 hg4))
    | (at_builtin; go_loud (refine wpList_appR elSp w4 rfl (.tmp 7) (.tmp 8) rfl w.heap.size v4 n1 ([] ++ spCs l) rfl H4.out.1 A2 n2 c2 w.heap.size (spCs m) rfl (by rw [spCs_len, E2.out]) (spCs_one m) (HC2.out.below H4.out.2) N HN.out (by omega) H4.out.2.size ?_; intro v5 w5 hown5 hg5 _; have H5 := Lib.hid (And.intro hown5 (own_grow H4.out.1 (Nat.le_refl _) H4.out.2 H4.out.2.size hg5)); clear hown5 hg5)))
  obtain ⟨A5, c5, rfl, _⟩ := own_form H5.out.1
  go_ret
  have ho := H5.out.1
  rw [List.nil_append, ← spCs_app] at ho
  exact ⟨A5, c5, rfl, SV.own ho (by rw [List.length_append, ← E1.out, ← E2.out, HN.out]), H5.out.2, Fr.own ho⟩
theorem MK.lit (w : World) : MK w (w.alloc (.cells #[] 60)) (.slice (some ⟨w.heap.size, 0, none⟩) 0 0) [] [] :=
  ⟨own_lit w _ 2 (0, 0) rfl, MZ.nil _ _, (Below.refl _ _).alloc (Nat.le_refl _) _, fun z h => by cases h⟩
end Go.Proofs.Ytafbjadlklcicaa
