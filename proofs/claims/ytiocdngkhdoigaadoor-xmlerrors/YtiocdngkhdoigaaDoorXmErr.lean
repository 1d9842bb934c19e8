/- XmlErrors answers true. -/
import Derived.Test.YtiocdngkhdoigaaDoorXmHead
namespace Go.Proofs.YtiocdngkhdoigaaDoor
open Go.RowKit
set_option maxRecDepth 100000

def badX : List L8 := [[], [97], [60, 97, 62], [60, 47, 97, 62], [60, 97, 62, 60, 47, 98, 62], [60, 97], [60, 97, 32, 98, 62, 60, 47, 97, 62], [60, 97, 32, 98, 61, 49, 62, 60, 47, 97, 62], [60, 97, 32, 98, 61, 39, 49, 39, 32, 98, 61, 39, 50, 39, 47, 62], [60, 97, 32, 98, 61, 39, 60, 39, 47, 62], [60, 97, 62, 38, 98, 59, 60, 47, 97, 62], [60, 97, 62, 38, 35, 48, 59, 60, 47, 97, 62], [60, 97, 62, 38, 35, 120, 100, 56, 48, 48, 59, 60, 47, 97, 62], [60, 97, 62, 38, 108, 116, 60, 47, 97, 62], [60, 97, 62, 93, 93, 62, 60, 47, 97, 62], [60, 97, 47, 62, 60, 98, 47, 62], [60, 97, 47, 62, 120], [120, 60, 97, 47, 62], [60, 33, 68, 79, 67, 84, 89, 80, 69, 32, 97, 62, 60, 97, 47, 62], [60, 97, 62, 60, 33, 45, 45, 32, 45, 45, 32, 45, 45, 62, 60, 47, 97, 62], [60, 97, 62, 60, 33, 45, 45, 32, 45, 45, 45, 62, 60, 47, 97, 62], [60, 97, 62, 60, 63, 120, 109, 108, 32, 120, 63, 62, 60, 47, 97, 62], [60, 97, 62, 60, 63, 88, 109, 76, 63, 62, 60, 47, 97, 62], [60, 49, 47, 62], [60, 32, 97, 47, 62], [60, 97, 32, 98, 61, 39, 49, 39, 99, 61, 39, 50, 39, 47, 62], [60, 97, 62, 38, 35, 120, 59, 60, 47, 97, 62], [60, 97, 62, 60, 33, 91, 67, 68, 65, 84, 65, 91, 60, 47, 97, 62], [60, 97, 32, 98, 61, 34, 38, 35, 49, 59, 34, 47, 62], [60, 97, 62, 1, 60, 47, 97, 62], [60, 97, 47, 32, 62], [60, 97, 62, 60, 47, 97], [32, 60, 63, 120, 109, 108, 32, 118, 61, 39, 49, 39, 63, 62, 60, 97, 47, 62]]
def padX : L8 := [60, 33, 45, 45, 111, 107, 45, 45, 62]
def isErrX (c : Int) : Except Int (List Nd) → Bool
  | .error d => d == c
  | .ok _ => false
theorem isErrX_eq {c : Int} {r : Except Int (List Nd)} (h : isErrX c r = true) : r = .error c := by
  cases r with
  | error d => unfold isErrX at h; rw [beq_iff_eq.1 h]
  | ok ps => cases h
theorem badX_all : (badX.all fun s => isErrX 11 (parseX s) && (isErrX 11 (parseX (padX ++ s)) && decide (s.length ≤ 20))) = true := by kernel_rfl
theorem badX_at (k : Nat) (h : k < 33) : ∃ s : L8, ([Value.string { data := #[] }, Value.string { data := #[97] }, Value.string { data := #[60, 97, 62] }, Value.string { data := #[60, 47, 97, 62] }, Value.string { data := #[60, 97, 62, 60, 47, 98, 62] }, Value.string { data := #[60, 97] }, Value.string { data := #[60, 97, 32, 98, 62, 60, 47, 97, 62] }, Value.string { data := #[60, 97, 32, 98, 61, 49, 62, 60, 47, 97, 62] }, Value.string { data := #[60, 97, 32, 98, 61, 39, 49, 39, 32, 98, 61, 39, 50, 39, 47, 62] }, Value.string { data := #[60, 97, 32, 98, 61, 39, 60, 39, 47, 62] }, Value.string { data := #[60, 97, 62, 38, 98, 59, 60, 47, 97, 62] }, Value.string { data := #[60, 97, 62, 38, 35, 48, 59, 60, 47, 97, 62] }, Value.string { data := #[60, 97, 62, 38, 35, 120, 100, 56, 48, 48, 59, 60, 47, 97, 62] }, Value.string { data := #[60, 97, 62, 38, 108, 116, 60, 47, 97, 62] }, Value.string { data := #[60, 97, 62, 93, 93, 62, 60, 47, 97, 62] }, Value.string { data := #[60, 97, 47, 62, 60, 98, 47, 62] }, Value.string { data := #[60, 97, 47, 62, 120] }, Value.string { data := #[120, 60, 97, 47, 62] }, Value.string { data := #[60, 33, 68, 79, 67, 84, 89, 80, 69, 32, 97, 62, 60, 97, 47, 62] }, Value.string { data := #[60, 97, 62, 60, 33, 45, 45, 32, 45, 45, 32, 45, 45, 62, 60, 47, 97, 62] }, Value.string { data := #[60, 97, 62, 60, 33, 45, 45, 32, 45, 45, 45, 62, 60, 47, 97, 62] }, Value.string { data := #[60, 97, 62, 60, 63, 120, 109, 108, 32, 120, 63, 62, 60, 47, 97, 62] }, Value.string { data := #[60, 97, 62, 60, 63, 88, 109, 76, 63, 62, 60, 47, 97, 62] }, Value.string { data := #[60, 49, 47, 62] }, Value.string { data := #[60, 32, 97, 47, 62] }, Value.string { data := #[60, 97, 32, 98, 61, 39, 49, 39, 99, 61, 39, 50, 39, 47, 62] }, Value.string { data := #[60, 97, 62, 38, 35, 120, 59, 60, 47, 97, 62] }, Value.string { data := #[60, 97, 62, 60, 33, 91, 67, 68, 65, 84, 65, 91, 60, 47, 97, 62] }, Value.string { data := #[60, 97, 32, 98, 61, 34, 38, 35, 49, 59, 34, 47, 62] }, Value.string { data := #[60, 97, 62, 1, 60, 47, 97, 62] }, Value.string { data := #[60, 97, 47, 32, 62] }, Value.string { data := #[60, 97, 62, 60, 47, 97] }, Value.string { data := #[32, 60, 63, 120, 109, 108, 32, 118, 61, 39, 49, 39, 63, 62, 60, 97, 47, 62] }] : List Value)[k]'(by simpa using h) = .string (strOf s) ∧ parseX s = .error 11 ∧ parseX (padX ++ s) = .error 11 ∧ s.length ≤ 20 := by
  have h2 := badX_all
  rw [List.all_eq_true] at h2
  have hk : k < badX.length := h
  have h3 := h2 (badX[k]'hk) (List.getElem_mem hk)
  simp only [Bool.and_eq_true, decide_eq_true_eq] at h3
  refine ⟨badX[k]'hk, ?_, isErrX_eq h3.1, isErrX_eq h3.2.1, h3.2.2⟩
  have e : ([Value.string { data := #[] }, Value.string { data := #[97] }, Value.string { data := #[60, 97, 62] }, Value.string { data := #[60, 47, 97, 62] }, Value.string { data := #[60, 97, 62, 60, 47, 98, 62] }, Value.string { data := #[60, 97] }, Value.string { data := #[60, 97, 32, 98, 62, 60, 47, 97, 62] }, Value.string { data := #[60, 97, 32, 98, 61, 49, 62, 60, 47, 97, 62] }, Value.string { data := #[60, 97, 32, 98, 61, 39, 49, 39, 32, 98, 61, 39, 50, 39, 47, 62] }, Value.string { data := #[60, 97, 32, 98, 61, 39, 60, 39, 47, 62] }, Value.string { data := #[60, 97, 62, 38, 98, 59, 60, 47, 97, 62] }, Value.string { data := #[60, 97, 62, 38, 35, 48, 59, 60, 47, 97, 62] }, Value.string { data := #[60, 97, 62, 38, 35, 120, 100, 56, 48, 48, 59, 60, 47, 97, 62] }, Value.string { data := #[60, 97, 62, 38, 108, 116, 60, 47, 97, 62] }, Value.string { data := #[60, 97, 62, 93, 93, 62, 60, 47, 97, 62] }, Value.string { data := #[60, 97, 47, 62, 60, 98, 47, 62] }, Value.string { data := #[60, 97, 47, 62, 120] }, Value.string { data := #[120, 60, 97, 47, 62] }, Value.string { data := #[60, 33, 68, 79, 67, 84, 89, 80, 69, 32, 97, 62, 60, 97, 47, 62] }, Value.string { data := #[60, 97, 62, 60, 33, 45, 45, 32, 45, 45, 32, 45, 45, 62, 60, 47, 97, 62] }, Value.string { data := #[60, 97, 62, 60, 33, 45, 45, 32, 45, 45, 45, 62, 60, 47, 97, 62] }, Value.string { data := #[60, 97, 62, 60, 63, 120, 109, 108, 32, 120, 63, 62, 60, 47, 97, 62] }, Value.string { data := #[60, 97, 62, 60, 63, 88, 109, 76, 63, 62, 60, 47, 97, 62] }, Value.string { data := #[60, 49, 47, 62] }, Value.string { data := #[60, 32, 97, 47, 62] }, Value.string { data := #[60, 97, 32, 98, 61, 39, 49, 39, 99, 61, 39, 50, 39, 47, 62] }, Value.string { data := #[60, 97, 62, 38, 35, 120, 59, 60, 47, 97, 62] }, Value.string { data := #[60, 97, 62, 60, 33, 91, 67, 68, 65, 84, 65, 91, 60, 47, 97, 62] }, Value.string { data := #[60, 97, 32, 98, 61, 34, 38, 35, 49, 59, 34, 47, 62] }, Value.string { data := #[60, 97, 62, 1, 60, 47, 97, 62] }, Value.string { data := #[60, 97, 47, 32, 62] }, Value.string { data := #[60, 97, 62, 60, 47, 97] }, Value.string { data := #[32, 60, 63, 120, 109, 108, 32, 118, 61, 39, 49, 39, 63, 62, 60, 97, 47, 62] }] : List Value) = badX.map fun s => .string (strOf s) := rfl
  simp only [e, List.getElem_map]
theorem ff_val : parseX [60, 97, 62, 255, 60, 47, 97, 62] = .error 10 := by kernel_rfl
theorem parse_err (l : L8) (c : Int) (h : Hid (parseX l = .error c)) (hl : l.length ≤ 1000000) (w : World) (hE : Env w) : Calls Tryd.prog 10 #[.string (strOf l)] w fun e w' => e = .returned (.tuple #[.slice none 0 0, .int .i64 c]) ∧ Below w.heap.size w w' := by
  refine (parse_any l hl w hE).mono ?_
  rintro e w1 ⟨b1, ⟨ns, v, hns, rfl, _⟩ | ⟨c', hns, rfl, _⟩⟩
  · rw [h.out] at hns; cases hns
  · rw [h.out] at hns; injection hns with hns; subst hns; exact ⟨rfl, b1⟩
theorem add8 (a b : L8) : (⟨a.toArray⟩ : ByteArray) ++ strOf b = strOf (a ++ b) := by
  apply ByteArray.ext
  simp [strOf]
set_option maxHeartbeats 4000000 in
theorem xerr_walk (a : Int) (b : Bool) (w : World) (hE : Env w) :
    Calls Tryd.prog 4 #[.int .i64 a, .bool b] w fun e w' => e = .returned (.bool true) ∧ Below w.heap.size w w' := by
  have HE := Lib.hid hE
  have h8 : 8 ≤ w.heap.size := hE.2.2.2.2
  clear hE
  obtain ⟨m, hm, hm33⟩ : ∃ m : Nat, (IntKind.u64.wrap a).tmod 33 = (m : Int) ∧ m < 33 := by
    have h1 : 0 ≤ IntKind.u64.wrap a := by simp [IntKind.wrap, IntKind.signed, IntKind.bits]; omega
    refine ⟨((IntKind.u64.wrap a).tmod 33).toNat, ?_, ?_⟩
    · have := Int.tmod_nonneg 33 h1; omega
    · have := Int.tmod_lt_of_pos (IntKind.u64.wrap a) (show (0 : Int) < 33 by omega); have := Int.tmod_nonneg 33 h1; omega
  obtain ⟨s, hsel, hp, hq, hsl⟩ := badX_at m hm33
  have HP := Lib.hid hp
  have HQ := Lib.hid hq
  have HF := Lib.hid ff_val
  have hss : (strOf s).size ≤ 20 := by rw [size8]; exact hsl
  have HSL := Lib.hid hsl
  have hadd := add8 padX s
  unfold padX at hadd
  clear hp hq hsl
  go_enter Tryd.func4, Tryd.ntmps4
  go_wp2_with fail
  refine (head_any _ HE.out).mono ?_
  rintro e w1 ⟨rfl, b1⟩
  have E1 := Lib.hid (HE.out.below h8 b1)
  cases b with
  | false =>
    go_wp2_with fail
    refine (parse_err s 11 HP (by have := HSL.out; omega) _ (E1.out.below E1.out.2.2.2.2 ((Below.refl _ _).alloc (Nat.le_refl _) _))).mono ?_
    rintro e w2 ⟨rfl, b2⟩
    have b12 : Below w.heap.size w w2 := (b1.alloc b1.size _).trans (b2.mono (by have := b1.size; simp; omega))
    have E2 := Lib.hid (HE.out.below h8 b12)
    have HB := Lib.hid b12
    clear b1 b2 E1 hsel hm HP HQ hss b12
    go_wp2_with fail
    refine (parse_err _ 10 HF (by decide) _ E2.out).mono ?_
    rintro e w3 ⟨rfl, b3⟩
    go_wp2_with fail
    go_ret
    exact ⟨rfl, HB.out.trans (b3.mono HB.out.size)⟩
  | true =>
    go_wp2_with fail
    refine (parse_err (padX ++ s) 11 HQ (by unfold padX; have := HSL.out; simp; omega) _ (E1.out.below E1.out.2.2.2.2 ((Below.refl _ _).alloc (Nat.le_refl _) _))).mono ?_
    rintro e w2 ⟨rfl, b2⟩
    have b12 : Below w.heap.size w w2 := (b1.alloc b1.size _).trans (b2.mono (by have := b1.size; simp; omega))
    have E2 := Lib.hid (HE.out.below h8 b12)
    have HB := Lib.hid b12
    clear b1 b2 E1 hsel hm HP HQ hss b12
    go_wp2_with fail
    refine (parse_err _ 10 HF (by decide) _ E2.out).mono ?_
    rintro e w3 ⟨rfl, b3⟩
    go_wp2_with fail
    go_ret
    exact ⟨rfl, HB.out.trans (b3.mono HB.out.size)⟩
end Go.Proofs.YtiocdngkhdoigaaDoor
