/- Whether hits are few. -/
import Derived.Test.YtjigaoclngfcaaaPoRi
import Derived.Test.YtjigaoclngfcaaaPoMb
namespace Go.Proofs.Ytjigaoclngfcaaa
open Go.RowKit
set_option maxRecDepth 100000

def fewH (hs : List HI) : Bool := hs.all (fun h => decide (h.2.length ≤ 20)) && decide (hs.length ≤ 40)
set_option maxHeartbeats 2000000 in
theorem few_any (A : Option Addr) (n c : Nat) (hs : List HI) (hn : Hid (n = hs.length)) (hnm : n ≤ 9223372036854775807) (w : World) (hI : HS w w.heap.size A hs) :
    Calls Try.prog 15 #[.slice A n c] w fun e w' => e = .returned (.bool (fewH hs)) ∧ Below w.heap.size w w' := by
  have HCS := Lib.hid hI
  clear hI
  obtain ⟨R, hR⟩ : ∃ R, R = fewH hs := ⟨_, rfl⟩
  rw [← hR]
  have HR := Lib.hid hR
  clear hR
  go_enter Try.func15, Try.ntmps15
  go_wp2_with fail
  go_loopw [7] (fun i wr => ∃ k : Nat, k ≤ n ∧ i = .int .i64 k ∧ Hid ((hs.take k).all (fun h => decide (h.2.length ≤ 20)) = true) ∧ Below w.heap.size w wr) (fun i _ => n - (intOf i).toNat)
  case atStart => exact ⟨0, Nat.zero_le _, rfl, rfl, Below.refl _ _⟩
  case round =>
    obtain ⟨k, hk, rfl, HT, hb⟩ := hrel
    have HB := Lib.hid hb
    by_cases hlt : k < n
    · have hkx : k < hs.length := by rw [← hn.out]; exact hlt
      obtain ⟨b, o, rfl, _, hc⟩ := (HCS.out.below hb) (by omega)
      obtain ⟨hc1, Ak, ck, hc2, hlk, hmk, _⟩ := hc k hkx
      have hle : (decide (hs[k].2.length ≤ 20) = true → (hs.take (k + 1)).all (fun h => decide (h.2.length ≤ 20)) = true) ∧ (decide (hs[k].2.length ≤ 20) = false → fewH hs = false) := by
        refine ⟨fun h => ?_, fun h => ?_⟩
        · rw [List.take_succ_eq_append_getElem hkx, List.all_append, HT.out, List.all_cons, h]; rfl
        · unfold fewH
          rw [show hs.all (fun h => decide (h.2.length ≤ 20)) = false by
            refine Bool.eq_false_iff.2 fun ha => ?_
            have := List.all_eq_true.1 ha _ (List.getElem_mem hkx)
            rw [h] at this
            cases this]
          rfl
      obtain ⟨d, hd⟩ : ∃ d, d = hs[k].1 := ⟨_, rfl⟩
      obtain ⟨m, hm⟩ : ∃ m, m = hs[k].2.length := ⟨_, rfl⟩
      rw [← hd] at hc1
      rw [← hm] at hc2 hlk hle
      have HLE := Lib.hid hle
      unfold maxLen at hmk
      have bA : Below wr.heap.size wr (wr.alloc (.cells #[.int .i64 d, .slice Ak m ck] 37)) := (Below.refl _ _).alloc (Nat.le_refl _) _
      have HBA := Lib.hid (hb.trans (bA.mono hb.size))
      clear hd hm hle hc hb bA
      by_cases h20 : m ≤ 20
      · have hI20 : ¬ (20 : Int) < (m : Int) := by omega
        have HTN := Lib.hid (HLE.out.1 (decide_eq_true h20))
        go_wp2_with fail
        exact ⟨⟨k + 1, hlt, by go_num, HTN, HBA.out⟩, by simp [intOf]; omega⟩
      · have hI20 : (20 : Int) < (m : Int) := by omega
        have HF := Lib.hid (HLE.out.2 (decide_eq_false h20))
        go_wp2_with fail
        go_ret
        exact ⟨by rw [HR.out, HF.out]; rfl, HBA.out⟩
    · obtain rfl : k = n := by omega
      have HTT := HT.out
      rw [List.take_of_length_le (by have := hn.out; omega)] at HTT
      have HRR : Hid (R = decide (k ≤ 40)) := by show _ = _; rw [HR.out, hn.out]; unfold fewH; rw [HTT]; rfl
      clear HTT
      by_cases h40 : k ≤ 40
      · have h40I : (k : Int) ≤ 40 := by omega
        have hbt : decide ((k : Int) ≤ 40) = true := decide_eq_true h40I
        go_wp2_with fail
        go_ret
        exact ⟨by rw [HRR.out, decide_eq_true h40]; rfl, HB.out⟩
      · have h40I : ¬ (k : Int) ≤ 40 := by omega
        have hbt : decide ((k : Int) ≤ 40) = false := decide_eq_false h40I
        go_wp2_with fail
        go_ret
        exact ⟨by rw [HRR.out, decide_eq_false h40]; rfl, HB.out⟩
end Go.Proofs.Ytjigaoclngfcaaa
