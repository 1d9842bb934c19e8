/- Holds. -/
import Derived.Test.YtafbjadlklcicaaMaNo
namespace Go.Proofs.Ytafbjadlklcicaa
open Go.RowKit
set_option maxRecDepth 100000

def holdsL (ms : List Mt) : Bool := ms.any fun m => m.2.isEmpty
theorem holdsL_snoc (ms : List Mt) (m : Mt) : holdsL (ms ++ [m]) = (holdsL ms || m.2.isEmpty) := by unfold holdsL; rw [List.any_append]; simp
theorem holds1_any (z0 : Value) (A : Option Addr) (n c : Nat) (w : World) :
    Calls Try.prog 68 #[.agg #[z0, .slice A n c]] w fun e w' => e = .returned (.bool ((n : Int) == 0)) ∧ Below w.heap.size w w' := by
  obtain ⟨x0, x1⟩ := box2 w z0 (.slice A n c) 60
  go_enter Try.func68, Try.ntmps68
  go_wp2_with fail
  go_ret
  exact ⟨rfl, (Below.refl _ _).alloc (Nat.le_refl _) _⟩
set_option maxHeartbeats 1000000 in
theorem hindex_any (A : Option Addr) (n c : Nat) (ms : List Mt) (HN : Hid (n = ms.length)) (hn : n ≤ 100000) (w : World) (h : MS w w.heap.size A ms) :
    Calls Try.prog 86 #[.slice A n c, .func (.func 68) #[] #[]] w fun e w' => ∃ r : Int, e = .returned (.int .i64 r) ∧ decide (0 ≤ r) = holdsL ms ∧ Below w.heap.size w w' := by
  have HA := Lib.hid h
  clear h
  go_enter Try.func86, Try.ntmps86
  go_wp2_with fail
  go_loopw [8] (fun i wr => ∃ k : Nat, k ≤ n ∧ i = .int .i64 k ∧ Hid (holdsL (ms.take k) = false) ∧ Below w.heap.size w wr) (fun i _ => n - (intOf i).toNat)
  case atStart => exact ⟨0, Nat.zero_le _, rfl, rfl, Below.refl _ _⟩
  case round =>
    obtain ⟨k, hk, rfl, HF, hb⟩ := hrel
    have HB := Lib.hid hb
    by_cases hlt : k < n
    · have hkl : k < ms.length := by rw [← HN.out]; exact hlt
      have HLT := Lib.hid hlt
      obtain ⟨b, o, z0, z1, rfl, _, e0, e1, y0, y1⟩ := (HA.out.below hb).at_ k hkl
      obtain ⟨S1, d1, rfl, _⟩ := id y1
      have HS : Hid (holdsL (ms.take (k + 1)) = ms[k].2.isEmpty ∧ (ms[k].2.isEmpty = true → holdsL ms = true)) := by
        refine ⟨by rw [List.take_succ_eq_append_getElem hkl, holdsL_snoc, HF.out]; rfl, fun h => ?_⟩
        unfold holdsL
        exact List.any_eq_true.2 ⟨_, List.getElem_mem hkl, h⟩
      obtain ⟨l1, hl1⟩ : ∃ l, l = ms[k].2.length := ⟨_, rfl⟩
      have HE : Hid (ms[k].2.isEmpty = decide (l1 = 0)) := by
        show _ = _
        rw [hl1]
        cases ms[k].2 <;> simp
      rw [← hl1] at e1
      obtain ⟨S0, d0, rfl, _⟩ := id y0
      obtain ⟨l0, hl0⟩ : ∃ l, l = ms[k].1.length := ⟨_, rfl⟩
      rw [← hl0] at e0
      have KH := Lib.hid (holds1_any (.slice S0 l0 d0) S1 l1 d1 wr)
      have wk : IntKind.i64.wrap ((k : Int) + 1) = (k : Int) + 1 := by rw [IntKind.wrap_i64]; omega
      clear y0 y1 hl1 hl0 hb
      go_wp2_with fail
      with_reducible refine KH.out.mono ?_
      rintro e w5 ⟨rfl, b5⟩
      have HB5 := Lib.hid (HB.out.trans (b5.mono HB.out.size))
      clear b5
      by_cases hz : l1 = 0
      · subst hz
        have HT : Hid (holdsL ms = true) := HS.out.2 (by rw [HE.out]; rfl)
        go_wp2_with fail
        go_ret
        exact ⟨_, rfl, by rw [HT.out]; exact decide_eq_true (by omega), HB5.out⟩
      · have hzb : ((l1 : Int) == 0) = false := by simp; omega
        have HT : Hid (holdsL (ms.take (k + 1)) = false) := by show _ = _; rw [HS.out.1, HE.out, decide_eq_false hz]
        go_wp2_with fail
        exact ⟨⟨k + 1, HLT.out, by go_num, HT, HB5.out⟩, by have := HLT.out; simp [intOf]; omega⟩
    · obtain rfl : k = n := by omega
      have HT : Hid (holdsL ms = false) := by show _ = _; rw [← HF.out, List.take_of_length_le (by rw [HN.out]; exact Nat.le_refl _)]
      go_wp2_with fail
      go_ret
      exact ⟨_, rfl, by rw [HT.out]; exact decide_eq_false (by decide), HB.out⟩
theorem holds_any (A : Option Addr) (n c : Nat) (ms : List Mt) (HN : Hid (n = ms.length)) (hn : n ≤ 100000) (w : World) (h : MS w w.heap.size A ms) :
    Calls Try.prog 34 #[.slice A n c] w fun e w' => e = .returned (.bool (holdsL ms)) ∧ Below w.heap.size w w' := by
  have KI := Lib.hid (hindex_any A n c ms HN hn w h)
  have KC : Hid (Calls Try.prog 67 #[.slice A n c, .func (.func 68) #[] #[]] w fun e w' => e = .returned (.bool (holdsL ms)) ∧ Below w.heap.size w w') := by
    show Calls _ _ _ _ _
    clear h
    go_enter Try.func67, Try.ntmps67
    go_wp2_with fail
    with_reducible refine KI.out.mono ?_
    rintro e w5 ⟨r, rfl, hr, b5⟩
    have HRR := Lib.hid hr
    have HB5 := Lib.hid b5
    clear hr b5
    go_wp2_with fail
    go_ret
    exact ⟨by rw [← HRR.out]; rfl, HB5.out⟩
  clear h KI
  go_enter Try.func34, Try.ntmps34
  go_wp2_with fail
  with_reducible refine KC.out.mono ?_
  rintro e w5 ⟨rfl, b5⟩
  go_wp2_with fail
  go_ret
  exact ⟨rfl, b5⟩
end Go.Proofs.Ytafbjadlklcicaa
