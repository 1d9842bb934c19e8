/- The laws' right, clean. -/
import Derived.Test.YtiocdngkhdoigaaDoorXmQs
import Derived.Test.YtiocdngkhdoigaaDoorXmDeep
namespace Go.Proofs.YtiocdngkhdoigaaDoor
open Go.RowKit
set_option maxRecDepth 100000

theorem add88 (a b : L8) : strOf a ++ strOf b = strOf (a ++ b) := by
  apply ByteArray.ext
  simp [strOf]
theorem rightf_any (r : Nat) (w : World) : Calls Tryd.prog 45 #[.int .i32 (r : Int)] w fun e w' => e = .returned (.int .i32 (gR r)) ∧ w = w' := by
  have HS := fun W => Lib.hid (xsign_any (r : Int) W)
  rw [okI_nat] at HS
  have HG : Hid (gR r = if okSign r then (r : Int) else 122) := rfl
  cases ho : okSign r with
  | true =>
    rw [ho] at HS HG
    clear ho
    go_enter Tryd.func45, Tryd.ntmps45
    go_wp2_with (go_at_call 31; refine (HS _).out.mono ?_; rintro e w' ⟨rfl, rfl⟩)
    go_ret
    exact ⟨by rw [HG.out]; rfl, rfl⟩
  | false =>
    rw [ho] at HS HG
    clear ho
    go_enter Tryd.func45, Tryd.ntmps45
    go_wp2_with (go_at_call 31; refine (HS _).out.mono ?_; rintro e w' ⟨rfl, rfl⟩)
    go_ret
    exact ⟨by rw [HG.out]; rfl, rfl⟩
theorem go_rightf (x : Int) (W : World) : (callFunc 45 #[.int .i32 x]).run Tryd.prog W = .ok (.enter 45 #[.int .i32 x]) W := enter_of Tryd.func45 (by kernel_rfl) (by kernel_rfl) _ W
theorem right_law (l : L8) (w : World) (hE : Env w) (hl : l.length ≤ 100000000) :
    Calls Tryd.prog 29 #[.string (strOf l)] w fun e w' => e = .returned (.string (strOf (mapL gR l))) ∧ Below w.heap.size w w' := by
  have HM := Lib.hid (map_any 45 gR (fun r W _ => rightf_any r W) go_rightf l w hE.1 hl)
  clear hE
  go_enter Tryd.func29, Tryd.ntmps29
  go_wp2_with fail
  refine HM.out.mono ?_
  rintro e w1 ⟨rfl, b1⟩
  go_wp2_with fail
  go_ret
  exact ⟨rfl, b1⟩
set_option maxHeartbeats 2000000 in
theorem clean_any (l : L8) (hl : l.length ≤ 1000000) (w : World) (hE : Env w) :
    Calls Tryd.prog 17 #[.string (strOf l)] w fun e w' => e = .returned (.string (strOf (cleanL l))) ∧ Below w.heap.size w w' := by
  have HE := Lib.hid hE
  have h8 : 8 ≤ w.heap.size := hE.2.2.2.2
  clear hE
  go_enter Tryd.func17, Tryd.ntmps17
  go_wp2_with fail
  go_loopg [0, 3] l.length (fun gg sv ov wr => ∃ (t o : L8) (f : Nat), sv = .string (strOf t) ∧ ov = .string (strOf o) ∧ t.length ≤ gg ∧ t.length ≤ f ∧ o.length + t.length ≤ l.length ∧ Hid (Below w.heap.size w wr) ∧ Hid (o ++ cleanG f t = cleanG l.length l))
  case atStart => exact ⟨l, [], l.length, rfl, rfl, Nat.le_refl _, Nat.le_refl _, by simp, Below.refl _ _, rfl⟩
  case round =>
    obtain ⟨t, o, f, rfl, rfl, htg, htf, hol, HB, HC⟩ := hrel
    have hEr := HE.out.below h8 HB.out
    have HST := Lib.hid (size8 t)
    by_cases he : t = []
    · have HX : Hid (o = cleanG l.length l) := by show _ = _; rw [← HC.out, he]; cases f <;> simp [cleanG]
      have hz : (strOf t).size = 0 := by rw [HST.out, he]; rfl
      subst he
      have hR := Lib.hid (right_law o wr hEr (by omega))
      have HCL : Hid (mapL gR o = cleanL l) := by show _ = _; rw [HX.out]; rfl
      clear HC HX
      go_wp2_with fail
      refine hR.out.mono ?_
      rintro e w1 ⟨rfl, b1⟩
      rw [HCL.out]
      go_wp2_with fail
      go_ret
      exact ⟨rfl, HB.out.trans (b1.mono HB.out.size)⟩
    · have htp := List.length_pos_iff.2 he
      obtain ⟨f, rfl⟩ : ∃ f', f = f' + 1 := ⟨f - 1, by omega⟩
      have HX : Hid (o ++ (t.take (nextN t).2 ++ cleanG f (t.drop (max 1 (nextN t).2))) = cleanG l.length l) := by
        show _ = _
        rw [← HC.out]
        conv => rhs; unfold cleanG
        rw [if_neg he]
      have HN := Lib.hid (next_any t wr hEr.1)
      have nb := (next_bd t).1
      clear HC
      generalize nextN t = x at *
      obtain ⟨x1, x2⟩ := x
      simp only at HX HN nb
      have hts : (0 : Int) < ((strOf t).size : Int) := by rw [HST.out]; omega
      have hsm : (strOf t).size ≤ 1000000 := by rw [HST.out]; omega
      have hos : (strOf o).size ≤ 1000000 := by rw [size8]; omega
      have hnb : x2 ≤ (strOf t).size := by rw [HST.out]; exact nb
      have htps : 1 ≤ (strOf t).size := by rw [HST.out]; exact htp
      clear he
      by_cases h0 : x2 = 0
      · subst h0
        have hcut := cut8 t 1
        have HX2 : Hid (o ++ cleanG f (t.drop 1) = cleanG l.length l) := by show _ = _; have := HX.out; simpa using this
        have hmax0 : max (1 : Int) 0 = 1 := rfl
        clear HX
        go_wp2_with fail
        refine HN.out.mono ?_
        rintro e w1 ⟨rfl, b1⟩
        go_wp2_with fail
        go_roundg (t.drop 1).length
        case rel => exact ⟨t.drop 1, o, f, by simp, rfl, Nat.le_refl _, by rw [List.length_drop]; omega, by rw [List.length_drop]; omega, HB.out.trans (b1.mono HB.out.size), HX2⟩
        case measure => rw [List.length_drop]; omega
      · have hcut := cut8 t x2
        have htk := take8 t x2
        have hadd := add88 o (t.take x2)
        have h0i : (0 : Int) < (x2 : Int) := by omega
        have h1i : (1 : Int) ≤ (x2 : Int) := by omega
        have hmax : max (1 : Int) (x2 : Int) = (x2 : Int) := by omega
        have HX2 : Hid ((o ++ t.take x2) ++ cleanG f (t.drop x2) = cleanG l.length l) := by have := HX.out; rw [show max 1 x2 = x2 by omega, ← List.append_assoc] at this; exact this
        have hts2 : (strOf (t.take x2)).size ≤ 1000000 := by rw [size8, List.length_take]; omega
        clear HX
        go_wp2_with fail
        refine HN.out.mono ?_
        rintro e w1 ⟨rfl, b1⟩
        go_wp2_with fail
        go_roundg (t.drop x2).length
        case rel => exact ⟨t.drop x2, o ++ t.take x2, f, rfl, rfl, Nat.le_refl _, by rw [List.length_drop]; omega, by rw [List.length_drop, List.length_append, List.length_take]; omega, HB.out.trans (b1.mono HB.out.size), HX2⟩
        case measure => rw [List.length_drop]; omega
end Go.Proofs.YtiocdngkhdoigaaDoor
