/- StemPlurals answers true. -/
import Derived.Test.YtdijicdlglnlmaaStLaw1
namespace Go.Proofs.Ytdijicdlglnlmaa
open Go.RowKit
set_option maxRecDepth 100000

theorem suf_snoc (t p : List UInt8) (c d : UInt8) : suf (t ++ [c]) (p ++ [d]) = (d == c && suf t p) := by
  unfold suf Lib.hasSuffix List.isSuffixOf
  simp [List.isPrefixOf]
theorem suf_drop (l p : List UInt8) : suf l p = decide (l.drop (l.length - p.length) = p) := by
  unfold suf Lib.hasSuffix
  rw [Bool.eq_iff_iff, decide_eq_true_eq, List.isSuffixOf_iff_suffix, List.suffix_iff_eq_drop]
  exact ⟨fun h => h.symm, fun h => h.symm⟩
theorem plural_same (l : List UInt8) (h3 : 3 ≤ l.length) (hs : smallL l = true) (h1 : ¬ lastL l 1 = 115) (h2 : suf l [105, 101] = false) (h4 : suf l [115, 115, 101] = false) : stemL (l ++ [115]) = stemL l := by
  have e1 : st1a (l ++ [115]) = l := by
    unfold st1a
    rw [show ([115, 115, 101, 115] : List UInt8) = [115, 115, 101] ++ [115] from rfl, show ([105, 101, 115] : List UInt8) = [105, 101] ++ [115] from rfl, show ([115, 115] : List UInt8) = [115] ++ [115] from rfl, suf_snoc, suf_snoc, suf_snoc, h4, h2]
    have h5 : suf l [115] = false := by
      rcases List.eq_nil_or_concat l with rfl | ⟨t, c, rfl⟩
      · simp at h3
      · rw [List.concat_eq_append] at h1 ⊢
        rw [suf_snoc1]
        rw [beq_eq_false_iff_ne]
        intro e
        apply h1
        simp [lastL, e]
    have h6 : suf (l ++ [115]) [115] = true := by rw [suf_snoc1]; rfl
    rw [h5, h6]
    simp [cutL]
  have e2 : st1a l = l := by
    rcases List.eq_nil_or_concat l with rfl | ⟨t, c, rfl⟩
    · simp at h3
    · rw [List.concat_eq_append] at h1 ⊢
      have hc : ((115 : UInt8) == c) = false := by
        rw [beq_eq_false_iff_ne]
        intro e
        apply h1
        simp [lastL, ← e]
      unfold st1a
      rw [show ([115, 115, 101, 115] : List UInt8) = [115, 115, 101] ++ [115] from rfl, show ([105, 101, 115] : List UInt8) = [105, 101] ++ [115] from rfl, show ([115, 115] : List UInt8) = [115] ++ [115] from rfl, suf_snoc, suf_snoc, suf_snoc, show suf (t ++ [c]) [115] = suf (t ++ [c]) ([] ++ [115]) from rfl, suf_snoc, hc]
      rfl
  have hs' : smallL (l ++ [115]) = true := small_append _ _ hs rfl
  have a1 : stemL (l ++ [115]) = stems (l ++ [115]) := by unfold stemL; rw [if_neg]; simp [hs']; omega
  have a2 : stemL l = stems l := by unfold stemL; rw [if_neg]; simp [hs]; omega
  rw [a1, a2]
  unfold stems
  rw [e1, e2]
theorem end_ext (l : List UInt8) (n : Nat) : (strOf l).extract ((strOf l).size - n) (strOf l).size = strOf (l.drop (l.length - n)) := by
  apply ByteArray.ext
  apply Array.toList_inj.1
  rw [Lib.extract_data, size8]
  exact List.take_of_length_le (by show (List.drop _ l).length ≤ _; simp)
theorem str_eq (a b : List UInt8) : ((strOf a).toList == b) = decide (a = b) := by
  rw [ByteArray.toList_eq, str_data, Bool.eq_iff_iff, beq_iff_eq, decide_eq_true_eq]

set_option maxHeartbeats 4000000 in
theorem plurals_walk (l : List UInt8) (hl : l.length ≤ 60) (hp : plainB l = true) (w : World) :
    Calls Try.prog 5 #[.string (strOf l)] w fun e w' => e = .returned (.bool true) ∧ Below w.heap.size w w' := by
  have hz : (strOf l).size ≤ 60 := by rw [size8]; exact hl
  have HP := Lib.hid hp
  have hp' := hp
  unfold plainB at hp'
  simp only [Bool.and_eq_true, decide_eq_true_eq] at hp'
  obtain ⟨hs, h3⟩ := hp'
  have hz3 : 3 ≤ (strOf l).size := by rw [size8]; exact h3
  have hx : (strOf l)[(strOf l).size - 1]'(by omega) = lastL l 1 := last_at l 1 (by omega) (by omega)
  have e2 := end_ext l 2
  have e3 := end_ext l 3
  have HSt := Lib.hid (stem_any l (by omega))
  have HSt2 := Lib.hid (stem_any (l ++ [115]) (by simp; omega))
  have hadd : strOf l ++ (⟨#[115]⟩ : ByteArray) = strOf (l ++ [115]) := add8 l [115]
  have S2 := suf_drop l [105, 101]
  have S3 := suf_drop l [115, 115, 101]
  have q2 := str_eq (l.drop (l.length - 2)) [105, 101]
  have q3 := str_eq (l.drop (l.length - 3)) [115, 115, 101]
  have HK := Lib.hid (plural_same l h3 hs)
  rw [show ([105, 101] : List UInt8).length = 2 from rfl] at S2
  rw [show ([115, 115, 101] : List UInt8).length = 3 from rfl] at S3
  rw [← S2] at q2
  rw [← S3] at q3
  clear S2 S3 hp
  generalize l.drop (l.length - 2) = t2 at *
  generalize l.drop (l.length - 3) = t3 at *
  generalize lastL l 1 = x at *
  generalize suf l [105, 101] = b2 at *
  generalize suf l [115, 115, 101] = b3 at *
  by_cases h1 : x = 115
  · subst h1
    go_enter Try.func5, Try.ntmps5
    go_wp2_with fail
    refine (head_any _).mono ?_
    rintro e w1 ⟨rfl, b1⟩
    go_wp2_with fail
    with_reducible refine (lplain_is _ _ HP (by omega) _).mono ?_
    rintro e w' ⟨rfl, rfl⟩
    go_wp2_with fail
    go_ret
    exact ⟨rfl, b1⟩
  · have hx1 : ((x.toNat : Int) == 115) = false := by
      rw [beq_eq_false_iff_ne]
      intro e
      apply h1
      rw [← UInt8.toNat_inj]
      show x.toNat = 115
      omega
    cases b2
    case' false => cases b3
    case' false.false => (have HQ := Lib.hid (HK.out h1 rfl rfl))
    all_goals clear h1 HK
    case' false.false => (generalize stemL (l ++ [115]) = p1 at *; generalize stemL l = p2 at *; obtain rfl : p1 = p2 := HQ.out)
    all_goals
      go_enter Try.func5, Try.ntmps5
      go_wp2_with fail
      refine (head_any _).mono ?_
      rintro e w1 ⟨rfl, b1⟩
      go_wp2_with fail
      with_reducible refine (lplain_is _ _ HP (by omega) _).mono ?_
      rintro e w' ⟨rfl, rfl⟩
      go_wp2_with fail
    · refine (HSt2.out _).mono ?_
      rintro e w2 ⟨rfl, b2⟩
      go_wp2_with fail
      refine (HSt.out _).mono ?_
      rintro e w3 ⟨rfl, b3⟩
      go_wp2_with fail
      go_ret
      have c2 := b1.trans (b2.mono b1.size)
      exact ⟨rfl, c2.trans (b3.mono c2.size)⟩
    all_goals
      go_ret
      exact ⟨rfl, b1⟩

set_option maxHeartbeats 1000000 in
theorem plurals_all (l : List UInt8) (w : World) :
    Calls Try.prog 5 #[.string (strOf l)] w fun e w' => e = .returned (.bool true) ∧ Below w.heap.size w w' := by
  by_cases hl : l.length ≤ 60
  · cases hp : plainB l
    · have HP := Lib.hid hp
      have hz : (strOf l).size ≤ 60 := by rw [size8]; exact hl
      clear hp
      go_enter Try.func5, Try.ntmps5
      go_wp2_with fail
      refine (head_any w).mono ?_
      rintro e w1 ⟨rfl, b1⟩
      go_wp2_with fail
      with_reducible refine (lplain_is _ _ HP (by omega) _).mono ?_
      rintro e w' ⟨rfl, rfl⟩
      go_wp2_with fail
      go_ret
      exact ⟨rfl, b1⟩
    · exact plurals_walk l hl hp w
  · have hsz : (60 : Int) < ((strOf l).size : Int) := by rw [size8]; omega
    go_enter Try.func5, Try.ntmps5
    go_wp2_with fail
    refine (head_any w).mono ?_
    rintro e w1 ⟨rfl, b1⟩
    go_wp2_with fail
    go_ret
    exact ⟨rfl, b1⟩
end Go.Proofs.Ytdijicdlglnlmaa
