/- utf.Next, utf.Right, utf.Put (for a seat without the laws of layer 2). -/
import Derived.Test.YtjeccmmhmdgdgaaGreatDoorChecked
import Derived.Test.YtjeccmmhmdgdgaaGreatDoorShelf
import Derived.Test.YtjeccmmhmdgdgaaGreatDoorSg
import Derived.Test.YtjeccmmhmdgdgaaGreatDoorMem2
import Derived.WalkKit
import Derived.WalkSpells
import Derived.Outline
import Derived.Lib.Hide
namespace Go.Proofs.YtjeccmmhmdgdgaaGreatDoor
open Go.RowKit
set_option maxRecDepth 100000

def strOf (l : List UInt8) : ByteArray := ⟨l.toArray⟩
def signB (r : Int) : Bool := decide (0 ≤ r ∧ r ≤ 1114111 ∧ ¬ (55296 ≤ r ∧ r ≤ 57343))
theorem signB_nat (r : Nat) : signB (r : Int) = decide (isSign r) := by
  unfold signB isSign
  by_cases h : r ≤ 1114111 ∧ ¬ (55296 ≤ r ∧ r ≤ 57343)
  · rw [decide_eq_true h, decide_eq_true (by omega)]
  · rw [decide_eq_false h, decide_eq_false (by omega)]

/-- The library's two tables in memory. -/
abbrev UT (w : World) : Prop := Lib.Utf8Tabs 0 1 w

theorem next_any (l : List UInt8) (w : World) (hT : UT w) :
    Calls Tryz.prog 45 #[.string (strOf l)] w fun e w' => e = .returned (.tuple #[.int .i32 (nextN l).1, .int .i64 (nextN l).2]) ∧ Below w.heap.size w w' := by
  have hd := Tryz.utf8_DecodeRuneInString (strOf l) w hT
  rw [show Lib.decodeGo (strOf l) = decL l from decodeGo_eq l] at hd
  have HD := Lib.hid hd
  clear hd
  obtain ⟨r, k, hrk⟩ : ∃ r k, decL l = (r, k) := ⟨_, _, rfl⟩
  have HN : Hid (nextN l = if r = 65533 ∧ k < 2 then (0, 0) else (r, k)) := by show _ = _; unfold nextN; rw [hrk]
  rw [hrk] at HD
  have HD2 := HD
  clear hrk HD
  by_cases h1 : r = 65533
  · subst h1
    by_cases h2 : k < 2
    · have hk : (k : Int) < 2 := by omega
      have HN2 : Hid (nextN l = (0, 0)) := by show _ = _; rw [HN.out, if_pos ⟨rfl, h2⟩]
      go_enter Tryz.func45, Tryz.ntmps45
      go_wp2_with fail
      refine HD2.out.mono ?_
      rintro e w1 ⟨rfl, hb1⟩
      simp only
      go_wp2_with fail
      go_ret2
      rw [HN2.out]
      exact ⟨rfl, hb1⟩
    · have hk : ¬ (k : Int) < 2 := by omega
      have HN2 : Hid (nextN l = (65533, k)) := by show _ = _; rw [HN.out, if_neg (fun h => h2 h.2)]
      go_enter Tryz.func45, Tryz.ntmps45
      go_wp2_with fail
      refine HD2.out.mono ?_
      rintro e w1 ⟨rfl, hb1⟩
      simp only
      go_wp2_with fail
      go_ret2
      rw [HN2.out]
      exact ⟨rfl, hb1⟩
  · have hr : ((r : Int) == 65533) = false := by simp; omega
    have HN2 : Hid (nextN l = (r, k)) := by show _ = _; rw [HN.out, if_neg (fun h => h1 h.1)]
    go_enter Tryz.func45, Tryz.ntmps45
    go_wp2_with fail
    refine HD2.out.mono ?_
    rintro e w1 ⟨rfl, hb1⟩
    simp only
    go_wp2_with fail
    go_ret2
    rw [HN2.out]
    exact ⟨rfl, hb1⟩

theorem right_any (l : List UInt8) (w : World) (hT : UT w) (hl : l.length ≤ 9223372036854775807) :
    Calls Tryz.prog 13 #[.string (strOf l)] w fun e w' => e = .returned (.bool (Lib.validD l)) ∧ Below w.heap.size w w' := by
  have hd := Tryz.utf8_ValidString (strOf l) w (by simpa [strOf, ByteArray.size] using hl) hT
  rw [show (strOf l).data.toList = l from rfl] at hd
  have HD := Lib.hid hd
  clear hd
  go_enter Tryz.func13, Tryz.ntmps13
  go_wp2_with fail
  refine HD.out.mono ?_
  rintro e w1 ⟨rfl, hb1⟩
  go_wp2_with fail
  go_ret
  exact ⟨rfl, hb1⟩
theorem validRune_eq (r : Int) : Lib.validRune r = signB r := by
  unfold Lib.validRune signB
  by_cases h : 0 ≤ r ∧ r ≤ 1114111 ∧ ¬ (55296 ≤ r ∧ r ≤ 57343)
  · rw [decide_eq_true h, decide_eq_true (by omega)]
  · rw [decide_eq_false h, decide_eq_false (by omega)]
theorem cells_enc (r : Nat) (hs : isSign r) : Lib.runeCells (r : Int) = cells8 (encS r) := by
  unfold isSign at hs
  unfold Lib.runeCells encS
  by_cases h1 : r < 128
  · rw [if_pos h1, Lib.encodeRuneZ_one (by omega) (by omega)]; simp [cells8]; omega
  · by_cases h2 : r < 2048
    · rw [if_neg h1, if_pos h2, Lib.encodeRuneZ_two (by omega) (by omega)]; simp [cells8]; omega
    · by_cases h3 : r < 65536
      · rw [if_neg h1, if_neg h2, if_pos h3, Lib.encodeRuneZ_three (by omega)]; simp [cells8]; omega
      · rw [if_neg h1, if_neg h2, if_neg h3, Lib.encodeRuneZ_four (by omega) (by omega)]; simp [cells8]; omega
theorem uput_bad (v : Value) (r : Int) (hs : signB r = false) (w : World) :
    Calls Tryz.prog 46 #[v, .int .i32 r] w fun e w' => e = .returned v ∧ w = w' := by
  have hv := Tryz.utf8_ValidRune r
  rw [validRune_eq, hs] at hv
  go_enter Tryz.func46, Tryz.ntmps46
  go_wp2_with fail
  refine (hv _).mono ?_
  rintro e w1 ⟨rfl, rfl⟩
  go_wp2_with fail
  go_ret
  exact ⟨rfl, rfl⟩
theorem uput_any (v : Value) (l : List UInt8) (base r : Nat) (hs : isSign r) (w : World) (hown : Own8 w base 5 v l) (hbase : base ≤ w.heap.size) (hlen : l.length ≤ 1000000000) :
    Calls Tryz.prog 46 #[v, .int .i32 r] w fun e w' => ∃ v', e = .returned v' ∧ Own8 w' base 5 v' (l ++ encS r) ∧ w.grownBy w' v.ownBlock := by
  have hv := Tryz.utf8_ValidRune (r : Int) w
  rw [validRune_eq, signB_nat, decide_eq_true hs] at hv
  have hs' := hs
  unfold isSign at hs'
  have ha := Tryz.utf8_AppendRune_plain base v l.length (cells8 l) (r : Int) (by omega) (by omega) w hown (by omega) hbase
  rw [cells_enc r hs, cells8_length, ← cells8_append, ← List.length_append] at ha
  have HA := Lib.hid ha
  have HV := Lib.hid hv
  clear hv ha
  go_enter Tryz.func46, Tryz.ntmps46
  go_wp2_with fail
  refine HV.out.mono ?_
  rintro e w1 ⟨rfl, rfl⟩
  go_wp2_with fail
  refine HA.out.mono ?_
  rintro e w2 ⟨v2, rfl, hown2, o, hg⟩
  go_wp2_with fail
  go_ret
  refine ⟨v2, rfl, hown2, ⟨hg.os, hg.tape, hg.output, Nat.le_trans (by simp) hg.size, fun k hk hne => ?_⟩⟩
  rw [hg.block k (by simp; omega) hne]
  exact Below.heap_alloc _ _ _ hk
end Go.Proofs.YtjeccmmhmdgdgaaGreatDoor
