/- StemShorter and StemPlurals answer true. -/
import Derived.Test.YtdijicdlglnlmaaStWalk7
namespace Go.Proofs.Ytdijicdlglnlmaa
open Go.RowKit
set_option maxRecDepth 100000

def plainB (l : List UInt8) : Bool := smallL l && decide (3 ≤ l.length)
set_option maxHeartbeats 2000000 in
theorem lplain_any (l : List UInt8) (hl : l.length ≤ 1000000000) (w : World) :
    Calls Try.prog 8 #[.string (strOf l)] w fun e w' => e = .returned (.bool (plainB l)) ∧ w = w' := by
  have HZ := Lib.hid (size8 l)
  have hs : (strOf l).size ≤ 1000000000 := by rw [size8]; exact hl
  go_enter Try.func8, Try.ntmps8
  go_wp2_with fail
  go_loop [3] (fun i => ∃ k : Nat, k ≤ (strOf l).size ∧ i = .int .i64 k ∧ Hid (smallL (l.take k) = true)) (fun i => (strOf l).size - (intOf i).toNat)
  case atStart => exact ⟨0, Nat.zero_le _, rfl, rfl⟩
  case round =>
    obtain ⟨k, hk, rfl, HS⟩ := hrel
    by_cases hlt : k < (strOf l).size
    · have HT := Lib.hid (take_snoc' l k hlt)
      have HN : Hid (smallL (l.take (k + 1)) = (decide (97 ≤ (strOf l)[k].toNat) && decide ((strOf l)[k].toNat ≤ 122))) := by
        show _ = _
        rw [HT.out, small_snoc, HS.out, Bool.true_and]
      obtain ⟨x, hx⟩ : ∃ x, (strOf l)[k] = x := ⟨_, rfl⟩
      rw [hx] at HN
      clear HT
      by_cases h1 : (x.toNat : Int) < 97
      · have HE : Hid (plainB l = false) := by show _ = _; rw [plainB, small_of_take l (k + 1) (by rw [HN.out]; simp; omega)]; rfl
        go_wp2_with fail
        go_ret
        exact ⟨by rw [HE.out]; rfl, rfl⟩
      · by_cases h2 : (122 : Int) < (x.toNat : Int)
        · have HE : Hid (plainB l = false) := by show _ = _; rw [plainB, small_of_take l (k + 1) (by rw [HN.out]; simp; omega)]; rfl
          go_wp2_with fail
          go_ret
          exact ⟨by rw [HE.out]; rfl, rfl⟩
        · have HE : Hid (smallL (l.take (k + 1)) = true) := by show _ = _; rw [HN.out]; simp; omega
          go_wp2_with fail
          go_round
          case rel => exact ⟨k + 1, by omega, by go_num, HE⟩
          case measure => simp [intOf]; omega
    · have HE : Hid (plainB l = decide (3 ≤ (strOf l).size)) := by
        have he : l.take k = l := List.take_of_length_le (by rw [size8] at hlt; omega)
        have := HS.out
        rw [he] at this
        show _ = _
        rw [plainB, this, size8]; rfl
      obtain ⟨b, hb⟩ : ∃ b, decide (3 ≤ (strOf l).size) = b := ⟨_, rfl⟩
      rw [hb] at HE
      cases b
      all_goals
        go_wp2_with fail
        go_ret
        refine ⟨?_, rfl⟩
        rw [HE.out]
        refine ret_bool ?_
        go_light
        simp at hb ⊢
        omega
theorem lplain_is (l : List UInt8) (b : Bool) (h : Hid (plainB l = b)) (hl : l.length ≤ 1000000000) (w : World) :
    Calls Try.prog 8 #[.string (strOf l)] w fun e w' => e = .returned (.bool b) ∧ w = w' := by
  have h' := h.out; subst h'; exact lplain_any l hl w
theorem stemL_other (l : List UInt8) (h : plainB l = false) : stemL l = l := by
  unfold stemL
  rw [if_pos]
  unfold plainB at h
  cases hs : smallL l
  · simp
  · rw [hs] at h; simp at h; simp; omega
theorem stemL_fine (l : List UInt8) (h : plainB l = true) : Fine l (stemL l) := by
  unfold plainB at h
  simp only [Bool.and_eq_true, decide_eq_true_eq] at h
  have : stemL l = stems l := by unfold stemL; rw [if_neg]; simp [h.1]; omega
  rw [this]
  exact fine_stems h.2 h.1
theorem first_at (l : List UInt8) (h : 0 < (strOf l).size) (x : UInt8) (hx : l.head? = some x) (W : World) : (Instr.index 9 (.string (strOf l)) (.int .i64 0)).run Try.prog W = .ok (.int .u8 (x.toNat : Int)) W := by
  rw [run_index_string W _ _ _ _ Try.underlying9, dif_pos (⟨by omega, by omega⟩ : 0 ≤ (0 : Int) ∧ (0 : Int) < ((strOf l).size : Int))]
  cases l with
  | nil => simp at hx
  | cons c t =>
    obtain rfl : c = x := by simpa using hx
    rfl

set_option maxHeartbeats 4000000 in
theorem shorter_walk (l : List UInt8) (hl : l.length ≤ 100) (w : World) :
    Calls Try.prog 3 #[.string (strOf l)] w fun e w' => e = .returned (.bool true) ∧ Below w.heap.size w w' := by
  have hz : (strOf l).size ≤ 100 := by rw [size8]; exact hl
  have HSt := Lib.hid (stem_any l (by omega))
  cases hp : plainB l
  · have HP := Lib.hid hp
    have HO := stemL_other l hp
    rw [HO] at HSt
    clear hp HO
    go_enter Try.func3, Try.ntmps3
    go_wp2_with fail
    refine (head_any _).mono ?_
    rintro e w1 ⟨rfl, b1⟩
    go_wp2_with fail
    refine (HSt.out _).mono ?_
    rintro e w2 ⟨rfl, b2⟩
    go_wp2_with fail
    with_reducible refine (lplain_is _ _ HP (by omega) _).mono ?_
    rintro e w' ⟨rfl, rfl⟩
    go_wp2_with fail
    go_ret
    exact ⟨rfl, b1.trans (b2.mono b1.size)⟩
  · have HP := Lib.hid hp
    obtain ⟨f1, f2, f3, f4⟩ := stemL_fine l hp
    clear hp
    generalize stemL l = q at *
    obtain ⟨x, hx⟩ : ∃ x, q.head? = some x := by
      cases q with
      | nil => simp at f2
      | cons c t => exact ⟨c, rfl⟩
    have hq0 : 0 < (strOf q).size := by rw [size8]; exact f2
    have hql : (strOf q).size ≤ (strOf l).size := by rw [size8, size8]; exact f1
    have i1 := first_at q hq0 x hx
    have i2 := first_at l (by omega) x (by rw [← f3]; exact hx)
    have F4 := Lib.hid f4
    have d1 : decide (((strOf l).size : Int) < ((strOf q).size : Int)) = false := decide_eq_false (by omega)
    have d2 : (((strOf q).size : Int) == 0) = false := beq_eq_false_iff_ne.2 (by omega)
    have d3 : decide ((strOf l).size < (strOf q).size) = false := decide_eq_false (by omega)
    have d4 : ((x.toNat : Int) != (x.toNat : Int)) = false := by simp
    clear f1 f2 f3 f4 hx
    go_enter Try.func3, Try.ntmps3
    go_wp2_with fail
    refine (head_any _).mono ?_
    rintro e w1 ⟨rfl, b1⟩
    go_wp2_with fail
    refine (HSt.out _).mono ?_
    rintro e w2 ⟨rfl, b2⟩
    go_wp2_with fail
    with_reducible refine (lplain_is _ _ HP (by omega) _).mono ?_
    rintro e w' ⟨rfl, rfl⟩
    have hb : Below w.heap.size w w2 := b1.trans (b2.mono b1.size)
    go_wp2_with fail
    go_quiet ((fail))
    go_wp2_with fail
    go_loop [4] (fun i => ∃ k : Nat, k ≤ (strOf q).size ∧ i = .int .i64 k) (fun i => (strOf q).size - (intOf i).toNat)
    case atStart => exact ⟨0, Nat.zero_le _, rfl⟩
    case round =>
      obtain ⟨k, hk, rfl⟩ := hrel
      by_cases hlt : k < (strOf q).size
      · obtain ⟨y, hy⟩ : ∃ y, (strOf q)[k] = y := ⟨_, rfl⟩
        have hr : 97 ≤ (y.toNat : Int) ∧ (y.toNat : Int) ≤ 122 := by
          have hf := F4.out
          unfold smallL at hf
          rw [List.all_eq_true] at hf
          have := hf y (by rw [← hy]; exact List.getElem_mem (l := q) (n := k) (by rw [size8] at hlt; exact hlt))
          simp only [Bool.and_eq_true, decide_eq_true_eq] at this
          omega
        obtain ⟨hr1, hr2⟩ := hr
        go_wp2_with fail
        go_round
        case rel => exact ⟨k + 1, by omega, by go_num⟩
        case measure => simp [intOf]; omega
      · go_wp2_with fail
        go_ret
        exact ⟨rfl, below_drewN hb nq⟩
set_option maxHeartbeats 1000000 in
theorem shorter_all (l : List UInt8) (w : World) :
    Calls Try.prog 3 #[.string (strOf l)] w fun e w' => e = .returned (.bool true) ∧ Below w.heap.size w w' := by
  by_cases hl : l.length ≤ 100
  · exact shorter_walk l hl w
  · have hsz : (100 : Int) < ((strOf l).size : Int) := by rw [size8]; omega
    go_enter Try.func3, Try.ntmps3
    go_wp2_with fail
    refine (head_any w).mono ?_
    rintro e w1 ⟨rfl, b1⟩
    go_wp2_with fail
    go_ret
    exact ⟨rfl, b1⟩
end Go.Proofs.Ytdijicdlglnlmaa
