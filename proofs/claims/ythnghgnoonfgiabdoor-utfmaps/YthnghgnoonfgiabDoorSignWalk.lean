/- The law's own 'sign' and 'bytes': what they answer. -/
import Derived.Test.YthnghgnoonfgiabDoorChecked
import Derived.Test.YthnghgnoonfgiabDoorSg
import Derived.Test.YthnghgnoonfgiabDoorMem2
import Derived.Deep.RegionHeld3
import Derived.WalkKit
import Derived.WalkSpells
import Derived.Outline
import Derived.Lib.Hide
import Derived.Deep.Light
namespace Go.Proofs.YthnghgnoonfgiabDoor
open Go.RowKit
set_option maxRecDepth 1000000

def strOf (l : List UInt8) : ByteArray := ⟨l.toArray⟩
def signB (r : Int) : Bool := decide (0 ≤ r ∧ r ≤ 1114111 ∧ ¬ (55296 ≤ r ∧ r ≤ 57343))
theorem signB_nat (r : Nat) : signB (r : Int) = decide (isSign r) := by
  unfold signB isSign
  by_cases h : r ≤ 1114111 ∧ ¬ (55296 ≤ r ∧ r ≤ 57343)
  · rw [decide_eq_true h, decide_eq_true (by omega)]
  · rw [decide_eq_false h, decide_eq_false (by omega)]
theorem sign_any (r : Int) (w : World) :
    Calls Tryd.prog 8 #[.int .i32 r] w fun e w' => e = .returned (.bool (signB r)) ∧ w = w' := by
  have hp : r < 0 ∨ (0 ≤ r ∧ r < 55296) ∨ (55296 ≤ r ∧ r ≤ 57343) ∨ (57343 < r ∧ r ≤ 1114111) ∨ 1114111 < r := by omega
  rcases hp with h | ⟨h, h'⟩ | ⟨h, h'⟩ | ⟨h, h'⟩ | h
  all_goals
    go_enter Tryd.func8, Tryd.ntmps8
    go_wp2
    go_ret
    refine ⟨ret_bool ?_, rfl⟩
    unfold signB
    go_light
    first | (symm; exact decide_eq_true (by omega)) | (symm; exact decide_eq_false (by omega)) | (rw [decide_eq_false (p := 0 ≤ r ∧ r ≤ 1114111 ∧ ¬ (55296 ≤ r ∧ r ≤ 57343)) (by omega)]; simp; omega)
theorem low_close (n k : Int) (hk : 0 < k) (h0 : 0 ≤ n) (_hn : n ≤ 1114111) : wrap64 (128 + (n / k).tmod 64) % 256 = 128 + n / k % 64 := by
  have h1 : 0 ≤ n / k := Int.ediv_nonneg h0 (by omega)
  have h2 : n / k ≤ n := Int.ediv_le_self _ h0
  rw [Int.tmod_eq_emod_of_nonneg h1]
  unfold wrap64
  omega
/-- low(k). -/
theorem low_cl (n k : Int) (g : Nat) (hk : 0 < k) (h0 : 0 ≤ n) (hn : n ≤ 1114111) (w : World) (hc : w.cell? ⟨g, 0, none⟩ = some (.int .i64 n)) :
    Calls Tryd.prog 20 #[.int .i64 k, .pointer (some ⟨g, 0, none⟩)] w fun e w' => e = .returned (.int .u8 (128 + n / k % 64)) ∧ w = w' := by
  have hk' : (k == 0) = false := by simp; omega
  go_enter Tryd.func20, Tryd.ntmps20
  go_wp2
  go_ret
  exact ⟨ret_int (low_close n k hk h0 hn), rfl⟩

/-- 'string([]byte{..})': cells that hold bytes. -/
theorem conv_lit (W : World) (l : List UInt8) (C : Array Value) (hC : C.toList = cells8 l) (g n : Nat) (hg : g = W.heap.size) (hn : n = l.length) (q : Nat) : (convert 22 9 (.slice (some ⟨g, 0, none⟩) n n)).run Tryd.prog ((W.alloc (.cells C 5)).drewN q) = .ok (.string (strOf l)) ((W.alloc (.cells C 5)).drewN q) := by
  subst hg
  have h : BS ((W.alloc (.cells C 5)).drewN q) (W.heap.size + 1) (some ⟨W.heap.size, 0, none⟩) l := BS.drewN (fun _ => by
    refine ⟨W.heap.size, 0, rfl, by omega, fun k hk => ?_⟩
    rw [Nat.zero_add, World.cell?_alloc_mark, ← Array.getElem?_toList, hC, cells8_at l k hk]) q
  exact h.conv _ _ hn

theorem conv_litD (W : World) (l : List UInt8) (C : Array Value) (hC : C.toList = cells8 l) (g n : Nat) (hg : g = W.heap.size) (hn : n = l.length) : (convert 22 9 (.slice (some ⟨g, 0, none⟩) n n)).run Tryd.prog (W.alloc (.cells C 5)).drew = .ok (.string (strOf l)) (W.alloc (.cells C 5)).drew := conv_lit W l C hC g n hg hn 1

set_option maxHeartbeats 4000000 in
theorem bytes_any (r : Nat) (hs : isSign r) (w : World) :
    Calls Tryd.prog 10 #[.int .i32 r] w fun e w' => e = .returned (.string (strOf (encS r))) ∧ Below w.heap.size w w' := by
  unfold isSign at hs
  obtain ⟨hs1, hs2⟩ := hs
  have hbA : Below w.heap.size w (w.alloc (.cells #[.int .i64 (r : Int)] 3)) := (Below.refl _ _).alloc (Nat.le_refl _) _
  have hd1 : decide ((r : Int) < 128) = decide (r < 128) := by by_cases h : r < 128 <;> simp [h] <;> omega
  by_cases h1 : r < 128
  · have hc := conv_lit (w.alloc (.cells #[.int .i64 (r : Int)] 3)) [UInt8.ofNat r] #[.int .u8 (r : Int)] (by simp [cells8]; omega) (w.heap.size + 1) 1 (by simp) rfl 0
    simp only [World.drewN_zero] at hc
    clear hd1
    go_enter Tryd.func10, Tryd.ntmps10
    go_wp2
    go_ret
    refine ⟨?_, hbA.alloc (by simp) _⟩
    unfold encS
    rw [if_pos h1]
    rfl
  · by_cases h2 : r < 2048
    · skip
      have HE : Hid (encS r = [UInt8.ofNat (192 + r / 64), UInt8.ofNat (128 + r % 64)]) := by show _ = _; unfold encS; rw [if_neg h1, if_pos h2]
      have hc := conv_litD (w.alloc (.cells #[.int .i64 (r : Int)] 3)) (encS r) #[.int .u8 (192 + (r : Int) / 64), .int .u8 (128 + (r : Int) % 64)] (by rw [HE.out]; simp [cells8]; omega) (w.heap.size + 1) 2 (by simp) (by rw [HE.out]; rfl)
      have hcell : (w.alloc (.cells #[.int .i64 (r : Int)] 3)).cell? ⟨w.heap.size, 0, none⟩ = some (.int .i64 (r : Int)) := by simp
      have hw0 : IntKind.i64.wrap ((r : Int) / 64) = (r : Int) / 64 := by rw [IntKind.wrap_i64]; omega
      have hw1 : IntKind.i64.wrap (192 + (r : Int) / 64) = 192 + (r : Int) / 64 := by rw [IntKind.wrap_i64]; omega
      have hw2 : IntKind.u8.wrap (192 + (r : Int) / 64) = 192 + (r : Int) / 64 := by rw [IntKind.wrap_u8']; omega
      have hc1 := low_cl (r : Int) 1 w.heap.size (by omega) (by omega) (by omega) (w.alloc (.cells #[.int .i64 (r : Int)] 3)).drew (by simp)
      rw [Int.ediv_one] at hc1
      have HC1 := Lib.hid hc1
      clear hd1 hc1
      go_enter Tryd.func10, Tryd.ntmps10
      go_wp2_with fail
      go_region_with (first | (go_at_call 20; (with_reducible refine HC1.out.mono ?_); rintro e w' ⟨rfl, rfl⟩))
      all_goals
        go_wp2
        go_ret
        exact ⟨rfl, (hbA.alloc (by simp) _).drew⟩
    · by_cases h3 : r < 65536
      · skip
        have HE : Hid (encS r = [UInt8.ofNat (224 + r / 4096), UInt8.ofNat (128 + r / 64 % 64), UInt8.ofNat (128 + r % 64)]) := by show _ = _; unfold encS; rw [if_neg h1, if_neg h2, if_pos h3]
        have hc := conv_litD (w.alloc (.cells #[.int .i64 (r : Int)] 3)) (encS r) #[.int .u8 (224 + (r : Int) / 4096), .int .u8 (128 + (r : Int) / 64 % 64), .int .u8 (128 + (r : Int) % 64)] (by rw [HE.out]; simp [cells8]; omega) (w.heap.size + 1) 3 (by simp) (by rw [HE.out]; rfl)
        have hcell : (w.alloc (.cells #[.int .i64 (r : Int)] 3)).cell? ⟨w.heap.size, 0, none⟩ = some (.int .i64 (r : Int)) := by simp
        have hw0 : IntKind.i64.wrap ((r : Int) / 4096) = (r : Int) / 4096 := by rw [IntKind.wrap_i64]; omega
        have hw1 : IntKind.i64.wrap (224 + (r : Int) / 4096) = 224 + (r : Int) / 4096 := by rw [IntKind.wrap_i64]; omega
        have hw2 : IntKind.u8.wrap (224 + (r : Int) / 4096) = 224 + (r : Int) / 4096 := by rw [IntKind.wrap_u8']; omega
        have hc64 := low_cl (r : Int) 64 w.heap.size (by omega) (by omega) (by omega) (w.alloc (.cells #[.int .i64 (r : Int)] 3)).drew (by simp)
        have HC64 := Lib.hid hc64
        have hc1 := low_cl (r : Int) 1 w.heap.size (by omega) (by omega) (by omega) (w.alloc (.cells #[.int .i64 (r : Int)] 3)).drew (by simp)
        rw [Int.ediv_one] at hc1
        have HC1 := Lib.hid hc1
        clear hd1 hc64 hc1
        go_enter Tryd.func10, Tryd.ntmps10
        go_wp2_with fail
        go_region_with (first | (go_at_call 20; (with_reducible refine HC64.out.mono ?_); rintro e w' ⟨rfl, rfl⟩) | (go_at_call 20; (with_reducible refine HC1.out.mono ?_); rintro e w' ⟨rfl, rfl⟩))
        all_goals
          go_wp2
          go_ret
          exact ⟨rfl, (hbA.alloc (by simp) _).drew⟩
      · skip
        have HE : Hid (encS r = [UInt8.ofNat (240 + r / 262144), UInt8.ofNat (128 + r / 4096 % 64), UInt8.ofNat (128 + r / 64 % 64), UInt8.ofNat (128 + r % 64)]) := by show _ = _; unfold encS; rw [if_neg h1, if_neg h2, if_neg h3]
        have hc := conv_litD (w.alloc (.cells #[.int .i64 (r : Int)] 3)) (encS r) #[.int .u8 (240 + (r : Int) / 262144), .int .u8 (128 + (r : Int) / 4096 % 64), .int .u8 (128 + (r : Int) / 64 % 64), .int .u8 (128 + (r : Int) % 64)] (by rw [HE.out]; simp [cells8]; omega) (w.heap.size + 1) 4 (by simp) (by rw [HE.out]; rfl)
        have hcell : (w.alloc (.cells #[.int .i64 (r : Int)] 3)).cell? ⟨w.heap.size, 0, none⟩ = some (.int .i64 (r : Int)) := by simp
        have hw0 : IntKind.i64.wrap ((r : Int) / 262144) = (r : Int) / 262144 := by rw [IntKind.wrap_i64]; omega
        have hw1 : IntKind.i64.wrap (240 + (r : Int) / 262144) = 240 + (r : Int) / 262144 := by rw [IntKind.wrap_i64]; omega
        have hw2 : IntKind.u8.wrap (240 + (r : Int) / 262144) = 240 + (r : Int) / 262144 := by rw [IntKind.wrap_u8']; omega
        have hc4096 := low_cl (r : Int) 4096 w.heap.size (by omega) (by omega) (by omega) (w.alloc (.cells #[.int .i64 (r : Int)] 3)).drew (by simp)
        have HC4096 := Lib.hid hc4096
        have hc64 := low_cl (r : Int) 64 w.heap.size (by omega) (by omega) (by omega) (w.alloc (.cells #[.int .i64 (r : Int)] 3)).drew (by simp)
        have HC64 := Lib.hid hc64
        have hc1 := low_cl (r : Int) 1 w.heap.size (by omega) (by omega) (by omega) (w.alloc (.cells #[.int .i64 (r : Int)] 3)).drew (by simp)
        rw [Int.ediv_one] at hc1
        have HC1 := Lib.hid hc1
        clear hd1 hc4096 hc64 hc1
        go_enter Tryd.func10, Tryd.ntmps10
        go_wp2_with fail
        go_region_with (first | (go_at_call 20; (with_reducible refine HC4096.out.mono ?_); rintro e w' ⟨rfl, rfl⟩) | (go_at_call 20; (with_reducible refine HC64.out.mono ?_); rintro e w' ⟨rfl, rfl⟩) | (go_at_call 20; (with_reducible refine HC1.out.mono ?_); rintro e w' ⟨rfl, rfl⟩))
        all_goals
          go_wp2
          go_ret
          exact ⟨rfl, (hbA.alloc (by simp) _).drew⟩
end Go.Proofs.YthnghgnoonfgiabDoor
