/- The reader of package xml: between. -/
import Derived.Test.YtbehfhdkdekjfaaDoorXmW3
namespace Go.Proofs.YtbehfhdkdekjfaaDoor
open Go.RowKit
set_option maxRecDepth 100000

set_option maxHeartbeats 2000000 in
theorem between_any (R : Nat) (l : L8) (hl : l.length ≤ 1000000) (hv : V8 l) (w : World) (h : Rst w R l) (hE : Env w) :
    Calls Tryd.prog 36 #[.pointer (some ⟨R, 0, none⟩)] w (StepPost R (betweenL (l.length + 1) l) w) := by
  have HE := Lib.hid hE
  have HV := Lib.hid hv
  have H := Lib.hid h
  clear h hE hv
  go_enter Tryd.func36, Tryd.ntmps36
  go_wp2_with fail
  go_loopg [3] l.length (fun gg _ wr => ∃ (t : L8) (f : Nat), t.length ≤ gg ∧ t.length < f ∧ t.length ≤ l.length ∧ Hid (Rst wr R t) ∧ Hid (Mv w wr R) ∧ Hid (V8 t) ∧ Hid (betweenL f t = betweenL (l.length + 1) l))
  case atStart => exact ⟨l, l.length + 1, Nat.le_refl _, Nat.lt_succ_self _, Nat.le_refl _, H, Mv.refl _ _, HV, rfl⟩
  case round =>
    obtain ⟨t, f, htg, htf, htl, HR, HM, HVt, HB⟩ := hrel
    have htl' : t.length ≤ 1000000 := by omega
    obtain ⟨f, rfl⟩ : ∃ f', f = f' + 1 := ⟨f - 1, by omega⟩
    have hsk := skip_len t
    have HVs := Lib.hid (v_skip HVt.out)
    have hE1 := Lib.hid (HE.out.mv H.out.ge HM.out)
    have HB2 : Hid (betweenL (l.length + 1) l = match tk [60, 33, 45, 45] (skipB t) with
      | some r => (match remarkL r with | none => none | some r' => betweenL f r')
      | none => match tk [60, 63] (skipB t) with
      | some r => (match instrL r with | none => none | some r' => betweenL f r')
      | none => some (skipB t)) := by show _ = _; rw [← HB.out]; rfl
    clear HB
    go_wp2_with fail
    refine (blanks_any R t htl' wr HR.out).mono ?_
    rintro e w1 ⟨rfl, m1, r1⟩
    have hE2 := Lib.hid (hE1.out.mv H.out.ge m1)
    have mm := Lib.hid (HM.out.trans m1)
    clear m1 HM hE1 HR
    generalize skipB t = s at *
    go_wp2_with fail
    cases hk : tk [60, 33, 45, 45] s with
    | some r =>
      rw [hk] at HB2
      have hrl := tk_len hk
      simp only [List.length_cons, List.length_nil] at hrl
      refine (take_yes R [60, 33, 45, 45] hk w1 r1).mono ?_
      rintro e w2 ⟨rfl, m2, r2⟩
      have hE3 := Lib.hid (hE2.out.mv H.out.ge m2)
      have HVr := Lib.hid (v_tk hk (by decide) HVs.out)
      clear hk
      go_wp2_with fail
      refine (remark_any R r (by omega) w2 r2 hE3.out).mono ?_
      rintro e w3 ⟨m3, ⟨r', hk2, rfl, r3⟩ | ⟨hk2, rfl, l3, r3⟩⟩
      · rw [hk2] at HB2
        have hv3 := v_remark hk2 HVr.out
        clear hk2
        go_wp2_with fail
        go_roundg r'.length
        case rel => exact ⟨r', f, Nat.le_refl _, by omega, by omega, r3, (mm.out.trans m2).trans m3, hv3.1, HB2.out.symm⟩
        case measure => omega
      · rw [hk2] at HB2
        clear hk2
        go_wp2_with fail
        go_ret
        exact ⟨(mm.out.trans m2).trans m3, .inr ⟨HB2.out, rfl, _, r3⟩⟩
    | none =>
      rw [hk] at HB2
      refine (take_no R [60, 33, 45, 45] hk w1 r1).mono ?_
      rintro e w2 ⟨rfl, m2, r2⟩
      have hE3 := Lib.hid (hE2.out.mv H.out.ge m2)
      clear hk
      go_wp2_with fail
      cases hk : tk [60, 63] s with
      | some r =>
        rw [hk] at HB2
        have hrl := tk_len hk
        simp only [List.length_cons, List.length_nil] at hrl
        refine (take_yes R [60, 63] hk w2 r2).mono ?_
        rintro e w3 ⟨rfl, m3, r3⟩
        have hE4 := Lib.hid (hE3.out.mv H.out.ge m3)
        have HVr := Lib.hid (v_tk hk (by decide) HVs.out)
        clear hk
        go_wp2_with fail
        refine (instr_any R r (by omega) HVr.out w3 r3 hE4.out).mono ?_
        rintro e w4 ⟨m4, ⟨r', hk2, rfl, r4⟩ | ⟨hk2, rfl, l3, r4⟩⟩
        · rw [hk2] at HB2
          have hv3 := v_instr hk2 HVr.out
          clear hk2
          go_wp2_with fail
          go_roundg r'.length
          case rel => exact ⟨r', f, Nat.le_refl _, by omega, by omega, r4, ((mm.out.trans m2).trans m3).trans m4, hv3.1, HB2.out.symm⟩
          case measure => omega
        · rw [hk2] at HB2
          clear hk2
          go_wp2_with fail
          go_ret
          exact ⟨((mm.out.trans m2).trans m3).trans m4, .inr ⟨HB2.out, rfl, _, r4⟩⟩
      | none =>
        rw [hk] at HB2
        refine (take_no R [60, 63] hk w2 r2).mono ?_
        rintro e w3 ⟨rfl, m3, r3⟩
        clear hk
        go_wp2_with fail
        go_ret
        exact ⟨(mm.out.trans m2).trans m3, .inl ⟨s, HB2.out, rfl, r3⟩⟩
end Go.Proofs.YtbehfhdkdekjfaaDoor
