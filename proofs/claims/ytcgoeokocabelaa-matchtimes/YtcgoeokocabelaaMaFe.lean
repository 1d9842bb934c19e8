/- few: of few matches there are few ways. -/
import Derived.Test.YtcgoeokocabelaaMaCo
namespace Go.Proofs.Ytcgoeokocabelaa
open Go.RowKit
set_option maxRecDepth 100000

def wF (m : Nat) : Nat → Nat
  | 0 => 1
  | k + 1 => wF m k * (m + (k + 1)) / (k + 1)
theorem wF_few : ∀ m : Fin 8, ∀ k : Fin 8, m.val + k.val ≤ 7 → wF m.val k.val ≤ 35 := by decide +kernel
theorem wF_le (m k : Nat) (h : m + k ≤ 7) : wF m k ≤ 35 := wF_few ⟨m, by omega⟩ ⟨k, by omega⟩ h
theorem wF_succ (m k : Nat) : wF m (k + 1) = wF m k * (m + (k + 1)) / (k + 1) := rfl
theorem wr64 (x : Nat) (h : x ≤ 1000) : wrap64 (x : Int) = (x : Int) := by unfold wrap64; omega
def FewS (m k W V q P : Nat) : Prop := V ≤ 35 ∧ wrap64 ((m : Int) + (k : Int)) = (q : Int) ∧ wrap64 ((W : Int) * (q : Int)) = (P : Int) ∧ (P : Int).tdiv (k : Int) = (V : Int) ∧ wrap64 (V : Int) = (V : Int) ∧ Hid (V = wF m k)
theorem few_step (m j W : Nat) (h : m + (j + 1) ≤ 7) (hW : W = wF m j) : ∃ V q P : Nat, FewS m (j + 1) W V q P := by
  have hV := wF_le m (j + 1) h
  have hWl : W ≤ 35 := by rw [hW]; exact wF_le m j (by omega)
  have hp : W * (m + (j + 1)) ≤ 35 * 7 := Nat.mul_le_mul hWl h
  refine ⟨wF m (j + 1), m + (j + 1), W * (m + (j + 1)), hV, ?_, ?_, ?_, wr64 _ (by omega), rfl⟩
  · rw [← Int.natCast_add]; exact wr64 _ (by omega)
  · rw [← Int.natCast_mul]; exact wr64 _ (by omega)
  · rw [wF_succ, ← hW]; exact (Int.ofNat_tdiv _ _).symm
theorem no400 (V : Nat) (h : V ≤ 35) : decide ((400 : Int) < (V : Int)) = false := decide_eq_false (by omega)
set_option maxHeartbeats 400000 in
theorem few_any (of n : Nat) (hn : n ≤ of) (hof : of ≤ 7) (w : World) :
    Calls Try.prog 107 #[.int .i64 (of : Int), .int .i64 (n : Int)] w fun e w' => e = .returned (.bool true) ∧ Below w.heap.size w w' := by
  obtain ⟨m, hm⟩ : ∃ m, of = n + m := ⟨of - n, by omega⟩
  have hw1 : IntKind.i64.wrap ((of : Int) - (n : Int)) = (m : Int) := by rw [IntKind.wrap_i64]; omega
  have HM : Hid (of = n + m ∧ of ≤ 7) := ⟨hm, hof⟩
  have hnl : n ≤ 7 := by omega
  clear hm hof hn
  go_enter Try.func107, Try.ntmps107
  go_wp2_with fail
  go_loopw [5, 6] (fun s5 i wr => ∃ k W : Nat, 1 ≤ k ∧ k ≤ n + 1 ∧ i = .int .i64 k ∧ s5 = .int .i64 W ∧ Hid (W = wF m (k - 1)) ∧ Below w.heap.size w wr) (fun _ i _ => n + 1 - (intOf i).toNat)
  case atStart => exact ⟨1, 1, by omega, by omega, rfl, rfl, rfl, Below.refl _ _⟩
  case round =>
    obtain ⟨k, W, hk1, hk, rfl, rfl, HW, hb⟩ := hrel
    have HB := Lib.hid hb
    clear hb
    by_cases hlt : k ≤ n
    · have hF : ∃ V q P : Nat, FewS m k W V q P := by
        obtain ⟨j, rfl⟩ : ∃ j, k = j + 1 := ⟨k - 1, by omega⟩
        exact few_step m j W (by have := HM.out; omega) (by have := HW.out; rwa [Nat.add_sub_cancel] at this)
      obtain ⟨V, q, P, hV, hw2, hw3, hw4, hw5, HV⟩ := hF
      have hk0 : (k : Int) ≠ 0 := by clear hw4 hw3 hw2 hw5; omega
      have h4 := no400 V hV
      have HLT := Lib.hid hlt
      clear HW hw5
      go_wp2_with fail
      exact ⟨⟨k + 1, V, Nat.succ_pos _, Nat.succ_le_succ HLT.out, by go_num, rfl, by show _ = _; rw [Nat.add_sub_cancel]; exact HV.out, HB.out⟩, by clear hw4 hw3 hw2; have := HLT.out; simp [intOf]; omega⟩
    · have hle : decide ((k : Int) ≤ (n : Int)) = false := decide_eq_false (by omega)
      clear HW
      go_wp2_with fail
      go_ret
      exact ⟨rfl, HB.out⟩
end Go.Proofs.Ytcgoeokocabelaa
