/- GlobErrors answers true. -/
import Derived.Test.YtdijicdlglnlmaaDoorGlPlain
namespace Go.Proofs.YtdijicdlglnlmaaDoor
open Go.RowKit
set_option maxRecDepth 100000

def badS : List (List UInt8) := [[92], [97, 92], [46, 123], [46, 123, 125], [46, 123, 49, 125], [46, 123, 49, 44, 125], [46, 123, 44, 50, 125], [46, 123, 50, 44, 49, 125], [46, 123, 97, 44, 98, 125], [46, 123, 49, 44, 50], [46, 123, 49, 48, 48, 48, 44, 49, 48, 48, 49, 125], [97, 46, 123, 48, 32, 44, 49, 125]]
def isErr (c : Int) : Except Int (List GP) → Bool
  | .error d => d == c
  | .ok _ => false
theorem isErr_eq {c : Int} {r : Except Int (List GP)} (h : isErr c r = true) : r = .error c := by
  cases r with
  | error d => unfold isErr at h; rw [beq_iff_eq.1 h]
  | ok ps => cases h
theorem bad_all : (badS.all fun s => Lib.validD s && (isErr 20 (parseL s.length s []) && decide (s.length ≤ 20))) = true := by kernel_rfl
theorem bad_at (k : Nat) (h : k < 12) : ∃ s : List UInt8, ([Value.string { data := #[92] }, Value.string { data := #[97, 92] }, Value.string { data := #[46, 123] }, Value.string { data := #[46, 123, 125] }, Value.string { data := #[46, 123, 49, 125] }, Value.string { data := #[46, 123, 49, 44, 125] }, Value.string { data := #[46, 123, 44, 50, 125] }, Value.string { data := #[46, 123, 50, 44, 49, 125] }, Value.string { data := #[46, 123, 97, 44, 98, 125] }, Value.string { data := #[46, 123, 49, 44, 50] }, Value.string { data := #[46, 123, 49, 48, 48, 48, 44, 49, 48, 48, 49, 125] }, Value.string { data := #[97, 46, 123, 48, 32, 44, 49, 125] }] : List Value)[k]'h = .string (strOf s) ∧ Lib.validD s = true ∧ parseL s.length s [] = .error 20 ∧ s.length ≤ 20 := by
  have h2 := bad_all
  rw [List.all_eq_true] at h2
  have hk : k < badS.length := h
  have h3 := h2 (badS[k]'hk) (List.getElem_mem hk)
  simp only [Bool.and_eq_true, decide_eq_true_eq] at h3
  refine ⟨badS[k]'hk, ?_, h3.1, isErr_eq h3.2.1, h3.2.2⟩
  have e : ([Value.string { data := #[92] }, Value.string { data := #[97, 92] }, Value.string { data := #[46, 123] }, Value.string { data := #[46, 123, 125] }, Value.string { data := #[46, 123, 49, 125] }, Value.string { data := #[46, 123, 49, 44, 125] }, Value.string { data := #[46, 123, 44, 50, 125] }, Value.string { data := #[46, 123, 50, 44, 49, 125] }, Value.string { data := #[46, 123, 97, 44, 98, 125] }, Value.string { data := #[46, 123, 49, 44, 50] }, Value.string { data := #[46, 123, 49, 48, 48, 48, 44, 49, 48, 48, 49, 125] }, Value.string { data := #[97, 46, 123, 48, 32, 44, 49, 125] }] : List Value) = badS.map fun s => Value.string (strOf s) := rfl
  simp only [e, List.getElem_map]
theorem a_parse (n : Nat) : ∀ (f : Nat) (acc : List GP), n ≤ f → acc.length ≤ 200 → acc.length + n > 200 → parseL f (List.replicate n 97) acc = .error 3 := by
  induction n with
  | zero => intro f acc _ h1 h2; omega
  | succ n ih =>
    intro f acc hf h1 h2
    cases f with
    | zero => omega
    | succ f =>
      rw [List.replicate_succ, parseL, if_neg (by simp)]
      by_cases h200 : acc.length = 200
      · rw [if_pos h200]
      · have hf1 : firstL (97 :: List.replicate n 97) = (sgn 97, 1) := by
          have e := nextN_enc 97 (by unfold isSign; omega) (List.replicate n 97)
          rw [show encS 97 ++ List.replicate n (97 : UInt8) = 97 :: List.replicate n 97 from rfl] at e
          unfold firstL
          rw [if_neg (by simp), if_neg (by simp), e]
          rfl
        rw [if_neg h200, hf1, if_neg (by decide)]
        exact ih f _ (by omega) (by simp; omega) (by simp; omega)
theorem a_all (n : Nat) : (List.replicate n 97 : List UInt8) = encAll (List.replicate n 97) := by
  induction n with
  | zero => rfl
  | succ n ih => rw [List.replicate_succ, List.replicate_succ, encAll_cons, ← ih]; rfl
theorem a_sign (n : Nat) : allSign (List.replicate n 97) := fun r hr => by
  rw [List.eq_of_mem_replicate hr]; unfold isSign; omega
theorem a_nb (n : Nat) : nb (List.replicate n 97) = true := by
  unfold nb
  rw [List.all_eq_true]
  intro c hc
  rw [List.eq_of_mem_replicate hc]
  rfl
theorem map_nil (f : Value) (w : World) : Calls Tryd.prog 17 #[.pointer none, f] w fun e w' => e = .returned (.pointer none) ∧ w = w' := by
  go_enter Tryd.func17, Tryd.ntmps17
  go_wp2_with fail
  go_ret
  exact ⟨rfl, rfl⟩
theorem add8 (a b : List UInt8) : strOf a ++ (⟨b.toArray⟩ : ByteArray) = strOf (a ++ b) := by
  apply ByteArray.ext
  simp [strOf]

theorem and_511 (b : Int) : ∃ n : Nat, bits .and .i64 b 511 = (n : Int) ∧ n ≤ 511 := by
  have h : (BitVec.ofInt 64 b &&& BitVec.ofInt 64 511).toNat ≤ 511 := by
    rw [BitVec.toNat_and]
    exact Nat.le_trans Nat.and_le_right (by decide)
  refine ⟨(BitVec.ofInt 64 b &&& BitVec.ofInt 64 511).toNat, ?_, h⟩
  show IntKind.i64.wrap ((BitVec.ofInt 64 b &&& BitVec.ofInt 64 511).toNat : Int) = _
  rw [IntKind.wrap_i64]
  omega
set_option maxHeartbeats 4000000 in
theorem gerr_walk (a b : Int) (w : World) (hT : UT w) :
    Calls Tryd.prog 5 #[.int .i64 a, .int .i64 b] w fun e w' => e = .returned (.bool true) ∧ Below w.heap.size w w' := by
  have HT := Lib.hid hT
  clear hT
  obtain ⟨m, hm, hm12⟩ : ∃ m : Nat, (IntKind.u64.wrap a).tmod 12 = (m : Int) ∧ m < 12 := by
    have h1 : 0 ≤ IntKind.u64.wrap a := by simp [IntKind.wrap, IntKind.signed, IntKind.bits]; omega
    refine ⟨((IntKind.u64.wrap a).tmod 12).toNat, ?_, ?_⟩
    · have := Int.tmod_nonneg 12 h1; omega
    · have := Int.tmod_lt_of_pos (IntKind.u64.wrap a) (show (0 : Int) < 12 by omega); have := Int.tmod_nonneg 12 h1; omega
  obtain ⟨s, hsel, hv, hp, hsl⟩ := bad_at m hm12
  obtain ⟨n, hn, hn511⟩ := and_511 b
  have HV := Lib.hid hv
  have HP := Lib.hid hp
  clear hv hp
  go_enter Tryd.func5, Tryd.ntmps5
  go_wp2_with fail
  refine (head_any _ HT.out).mono ?_
  rintro e w1 ⟨rfl, b1⟩
  have T1 := Lib.hid (ut_keep HT.out b1)
  clear HT
  go_wp2_with fail
  refine (parse_wrong s 20 HV HP (by omega) _ (ut_keep T1.out ((Below.refl _ _).alloc (Nat.le_refl _) _))).mono ?_
  rintro e w2 ⟨rfl, b2⟩
  have b12 : Below w.heap.size w w2 := (b1.alloc b1.size _).trans (b2.mono (by have := b1.size; simp; omega))
  have T2 := Lib.hid (ut_keep T1.out (((Below.refl _ _).alloc (Nat.le_refl _) _).trans (b2.mono (by simp))))
  clear b1 b2 T1 hsel hm HV HP hsl
  go_wp2_with fail
  go_loop [8, 9] (fun s i => ∃ k : Nat, k ≤ n ∧ i = .int .i64 k ∧ s = .string (strOf (List.replicate k 97))) (fun _ i => n - (intOf i).toNat)
  case atStart => exact ⟨0, Nat.zero_le _, rfl, rfl⟩
  case round =>
    obtain ⟨k, hk, rfl, rfl⟩ := hrel
    by_cases hlt : k < n
    · have hzk : (strOf (List.replicate k 97)).size ≤ 511 := by rw [size8, List.length_replicate]; omega
      have HA : Hid (strOf (List.replicate k 97) ++ (⟨#[97]⟩ : ByteArray) = strOf (List.replicate (k + 1) 97)) := by
        show _ = _
        rw [show (⟨#[97]⟩ : ByteArray) = ⟨[97].toArray⟩ from rfl, add8, List.replicate_succ']
      generalize strOf (List.replicate k 97) = q at *
      go_wp2_with fail
      go_round
      case rel => exact ⟨k + 1, by omega, by go_num, by rw [← HA.out]⟩
      case measure => simp [intOf]; omega
    · obtain rfl : k = n := by omega
      clear hlt hk
      have HV2 : Hid (Lib.validD (List.replicate k 97) = true) := by show _ = _; rw [a_all]; exact valid_all _ (a_sign k)
      have hrl : (List.replicate k (97 : UInt8)).length ≤ 511 := by rw [List.length_replicate]; exact hn511
      by_cases h200 : k ≤ 200
      · have HP2 : Hid (parseL (List.replicate k (97 : UInt8)).length (List.replicate k 97) [] = .ok ((List.replicate k 97).map sgn)) := by
          show _ = _
          have := plain_parse (List.replicate k 97) k [] (by rw [← a_all, List.length_replicate]; exact Nat.le_refl _) (a_sign k) (by rw [← a_all]; exact a_nb k) (by simp; omega)
          rw [← a_all] at this
          rw [List.length_replicate]
          simpa using this
        have HM : Hid ((List.replicate k 97 : List UInt8) = encAll (List.replicate k 97) ∧ allSign (List.replicate k 97) ∧ (List.replicate k 97 : List Nat).length ≤ 100000 ∧ okGP ((List.replicate k 97).map sgn) ∧ ((List.replicate k 97).map sgn).length ≤ 200 ∧ matchB ((List.replicate k 97).map sgn) ((List.replicate k 97).map fun r : Nat => (r : Int)) = true) :=
          ⟨a_all k, a_sign k, by rw [List.length_replicate]; omega, plain_ok _, by simpa using h200, by rw [plain_match]; exact decide_eq_true rfl⟩
        have hd : ((k : Int) ≤ 200) := by omega
        have hd2 : decide ((k : Int) ≤ 200) = true := decide_eq_true hd
        generalize (List.replicate k 97).map sgn = ps at *
        generalize (List.replicate k 97 : List Nat) = rs at *
        generalize (List.replicate k 97 : List UInt8) = t at *
        go_wp2_with fail
        refine (parse_good t ps HV2 HP2 (by omega) _ T2.out).mono ?_
        rintro e w3 ⟨R, rfl, G3, b3⟩
        have T3 := Lib.hid (ut_keep T2.out b3)
        replace b3 := b12.trans (b3.mono b12.size)
        clear b12 T2
        go_wp2_with fail
        refine (match_is t rs ps true HM _ _ _ T3.out G3).mono ?_
        rintro e w4 ⟨rfl, b4⟩
        replace b4 := b3.trans (b4.mono b3.size)
        clear b3 T3 G3
        go_wp2_with fail
        refine (match_nil _ _).mono ?_
        rintro e w' ⟨rfl, rfl⟩
        go_wp2_with fail
        refine (prefix_nil _).mono ?_
        rintro e w' ⟨rfl, rfl⟩
        go_wp2_with fail
        refine (map_nil _ _).mono ?_
        rintro e w' ⟨rfl, rfl⟩
        go_wp2_with fail
        go_ret
        exact ⟨rfl, b4⟩
      · have HP2 : Hid (parseL (List.replicate k (97 : UInt8)).length (List.replicate k 97) [] = .error 3) := by
          show _ = _
          rw [List.length_replicate]
          exact a_parse k k [] (Nat.le_refl _) (by simp) (by simp; omega)
        have hd : (200 : Int) < (k : Int) := by omega
        have hd2 : decide ((k : Int) ≤ 200) = false := decide_eq_false (by omega)
        generalize (List.replicate k 97 : List UInt8) = t at *
        go_wp2_with fail
        refine (parse_wrong t 3 HV2 HP2 (by omega) _ T2.out).mono ?_
        rintro e w3 ⟨rfl, b3⟩
        replace b3 := b12.trans (b3.mono b12.size)
        clear b12 T2
        go_wp2_with fail
        refine (match_nil _ _).mono ?_
        rintro e w' ⟨rfl, rfl⟩
        go_wp2_with fail
        refine (prefix_nil _).mono ?_
        rintro e w' ⟨rfl, rfl⟩
        go_wp2_with fail
        refine (map_nil _ _).mono ?_
        rintro e w' ⟨rfl, rfl⟩
        go_wp2_with fail
        go_ret
        exact ⟨rfl, b3⟩
end Go.Proofs.YtdijicdlglnlmaaDoor
