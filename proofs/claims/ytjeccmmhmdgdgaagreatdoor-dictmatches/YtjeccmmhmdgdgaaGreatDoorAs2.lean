/- The smaller functions of package stem. -/
import Derived.Test.YtjeccmmhmdgdgaaGreatDoorAs1
import Derived.Deep.RegionHeld3
namespace Go.Proofs.YtjeccmmhmdgdgaaGreatDoor.St
open Go.RowKit
set_option maxRecDepth 100000

theorem str_data (l : List UInt8) : (strOf l).data.toList = l := by simp [strOf]
theorem suf_is (l p : List UInt8) (b : Bool) (h : Hid (suf l p = b)) (hl : l.length ≤ 1000000000) (w : World) :
    Calls Tryz.prog 69 #[.string (strOf l), .string ⟨p.toArray⟩] w fun e w' => e = .returned (.bool b) ∧ w = w' := by
  have h' := h.out
  subst h'
  refine (Tryz.strings_HasSuffix (strOf l) ⟨p.toArray⟩ w (by rw [size8]; omega)).mono ?_
  rintro e w' ⟨rfl, rfl⟩
  exact ⟨by rw [str_data]; rfl, rfl⟩
theorem cut_yes (l p : List UInt8) (n : Nat) (hn : p.length = n) (h : Hid (suf l p = true)) (hl : l.length ≤ 1000000000) (w : World) :
    Calls Tryz.prog 70 #[.string (strOf l), .string ⟨p.toArray⟩] w fun e w' => e = .returned (.tuple #[.string (strOf (cutL l n)), .bool true]) ∧ w = w' := by
  have h' := h.out
  subst hn
  refine (Tryz.strings_CutSuffix (strOf l) ⟨p.toArray⟩ w (by rw [size8]; omega)).mono ?_
  rintro e w' ⟨rfl, rfl⟩
  unfold suf at h'
  refine ⟨?_, rfl⟩
  show Ending.returned (.tuple #[.string ⟨(Lib.trimSuffix (strOf l).data.toList p).toArray⟩, .bool (Lib.hasSuffix (strOf l).data.toList p)]) = _
  rw [str_data, Lib.trimSuffix, h', if_pos rfl]
  rfl
theorem cut_no (l p : List UInt8) (h : Hid (suf l p = false)) (hl : l.length ≤ 1000000000) (w : World) :
    Calls Tryz.prog 70 #[.string (strOf l), .string ⟨p.toArray⟩] w fun e w' => e = .returned (.tuple #[.string (strOf l), .bool false]) ∧ w = w' := by
  have h' := h.out
  refine (Tryz.strings_CutSuffix (strOf l) ⟨p.toArray⟩ w (by rw [size8]; omega)).mono ?_
  rintro e w' ⟨rfl, rfl⟩
  unfold suf at h'
  refine ⟨?_, rfl⟩
  show Ending.returned (.tuple #[.string ⟨(Lib.trimSuffix (strOf l).data.toList p).toArray⟩, .bool (Lib.hasSuffix (strOf l).data.toList p)]) = _
  rw [str_data, Lib.trimSuffix, h', if_neg (by decide)]
  rfl
theorem small_ascii {l : List UInt8} (h : smallL l = true) : ∀ (j : Nat) b, l[j]? = some b → b.toNat < 128 := by
  intro j b hb
  unfold smallL at h
  rw [List.all_eq_true] at h
  have := h b (List.mem_of_getElem? hb)
  simp only [Bool.and_eq_true, decide_eq_true_eq] at this
  omega
theorem vowels_ascii : ∀ (j : Nat) b, ([97, 101, 105, 111, 117] : List UInt8)[j]? = some b → b.toNat < 128 := by
  intro j b hb
  have hm : b ∈ ([97, 101, 105, 111, 117] : List UInt8) := List.mem_of_getElem? hb
  simp only [List.mem_cons, List.not_mem_nil, or_false] at hm
  rcases hm with rfl | rfl | rfl | rfl | rfl <;> decide
set_option maxHeartbeats 1000000 in
theorem hasV_any (l : List UInt8) (hl : l.length ≤ 1000000000) (hs : smallL l = true) (w : World) :
    Calls Tryz.prog 72 #[.string (strOf l)] w fun e w' => e = .returned (.bool (hasV l)) ∧ Below w.heap.size w w' := by
  have c1 := Tryz.strings_ContainsAny_laid (strOf l) ⟨#[97, 101, 105, 111, 117]⟩ w (by rw [size8]; omega) (by decide) (by rw [str_data]; exact small_ascii hs) vowels_ascii
  rw [str_data] at c1
  have HH : Hid (hasV l = (Lib.containsAny l [97, 101, 105, 111, 117] || decide (0 < Lib.lastIndexByte (strOf l) 121))) := rfl
  have c2 := Tryz.strings_LastIndexByte (strOf l) 121 (by rw [size8]; omega)
  have c1' : Calls Tryz.prog 93 #[.string (strOf l), .string ⟨#[97, 101, 105, 111, 117]⟩] w fun e w' => e = .returned (.bool (Lib.containsAny l [97, 101, 105, 111, 117])) ∧ Below w.heap.size w w' := c1
  clear c1
  generalize Lib.containsAny l [97, 101, 105, 111, 117] = b at *
  generalize Lib.lastIndexByte (strOf l) 121 = k at *
  have C1 := Lib.hid c1'
  have C2 := Lib.hid c2
  clear c1' c2
  cases b
  · go_enter Tryz.func72, Tryz.ntmps72
    go_wp2_with fail
    refine C1.out.mono ?_
    rintro e w1 ⟨rfl, hb⟩
    go_wp2_with fail
    refine (C2.out _).mono ?_
    rintro e w2 ⟨rfl, rfl⟩
    go_wp2_with fail
    go_ret
    exact ⟨by rw [HH.out]; rfl, hb⟩
  · go_enter Tryz.func72, Tryz.ntmps72
    go_wp2_with fail
    refine C1.out.mono ?_
    rintro e w1 ⟨rfl, hb⟩
    go_wp2_with fail
    go_ret
    exact ⟨by rw [HH.out]; rfl, hb⟩
theorem add8 (a b : List UInt8) : strOf a ++ (⟨b.toArray⟩ : ByteArray) = strOf (a ++ b) := by
  apply ByteArray.ext
  simp [strOf]
theorem cut_ext (l : List UInt8) (n : Nat) : (strOf l).extract 0 ((strOf l).size - n) = strOf (cutL l n) := by
  apply ByteArray.ext
  apply Array.toList_inj.1
  rw [Lib.extract_data, size8]
  unfold cutL
  show List.take _ (List.drop 0 l) = List.take _ l
  rw [List.drop_zero]
  congr 1
set_option maxHeartbeats 2000000 in
theorem plural_any (l : List UInt8) (hl : l.length ≤ 1000000000) (w : World) :
    Calls Tryz.prog 53 #[.string (strOf l)] w fun e w' => e = .returned (.string (strOf (st1a l))) ∧ w = w' := by
  have HH : Hid (st1a l = if suf l [115, 115, 101, 115] || suf l [105, 101, 115] then cutL l 2 else if suf l [115] && !suf l [115, 115] then cutL l 1 else l) := rfl
  have hz1 : (strOf l).size ≤ 1000000000 := by rw [size8]; exact hl
  obtain ⟨b1, h1⟩ : ∃ b, suf l [115, 115, 101, 115] = b := ⟨_, rfl⟩
  obtain ⟨b2, h2⟩ : ∃ b, suf l [105, 101, 115] = b := ⟨_, rfl⟩
  obtain ⟨b3, h3⟩ : ∃ b, suf l [115] = b := ⟨_, rfl⟩
  obtain ⟨b4, h4⟩ : ∃ b, suf l [115, 115] = b := ⟨_, rfl⟩
  have z2 : b1 = true ∨ b2 = true → 2 ≤ (strOf l).size := by
    rw [size8]
    rintro (rfl | rfl)
    · exact Nat.le_trans (by decide) (suf_len h1)
    · exact Nat.le_trans (by decide) (suf_len h2)
  have z1 : b3 = true → 1 ≤ (strOf l).size := by
    rw [size8]
    rintro rfl
    exact suf_len h3
  have H1 := Lib.hid h1
  have H2 := Lib.hid h2
  have H3 := Lib.hid h3
  have H4 := Lib.hid h4
  have E1 := Lib.hid (cut_ext l 1)
  have E2 := Lib.hid (cut_ext l 2)
  clear h1 h2 h3 h4
  cases b1
  case' false => cases b2
  case' false.false => cases b3
  case' false.false.true => cases b4
  all_goals (first | have z := z2 (.inl rfl) | have z := z2 (.inr rfl) | have z := z1 rfl | skip)
  all_goals clear z1 z2
  all_goals
    go_enter Tryz.func53, Tryz.ntmps53
    go_wp2_with (go_at_call 69; (first | (with_reducible refine (suf_is _ _ _ H1 hl _).mono ?_) | (with_reducible refine (suf_is _ _ _ H2 hl _).mono ?_) | (with_reducible refine (suf_is _ _ _ H3 hl _).mono ?_) | (with_reducible refine (suf_is _ _ _ H4 hl _).mono ?_)); rintro e w' ⟨rfl, rfl⟩)
    go_ret
    refine ⟨?_, rfl⟩
    rw [HH.out, H1.out, H2.out, H3.out, H4.out]
    first | exact congrArg (fun x => Ending.returned (.string x)) E2.out | exact congrArg (fun x => Ending.returned (.string x)) E1.out | rfl
end Go.Proofs.YtjeccmmhmdgdgaaGreatDoor.St
