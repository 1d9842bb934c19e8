/- The reader of package xml: remark, instruction, heading, between. -/
import Derived.Test.YtbehfhdkdekjfaaDoorXmV
import Derived.Test.YtbehfhdkdekjfaaDoorUmapX
namespace Go.Proofs.YtbehfhdkdekjfaaDoor
open Go.RowKit
set_option maxRecDepth 100000

theorem str_is (a b : L8) : ((strOf a).toList == b) = decide (a = b) := by
  rw [ByteArray.toList_eq, str_data, Bool.eq_iff_iff, beq_iff_eq, decide_eq_true_eq]
theorem up2 : ([45, 45] : L8) ≠ [] := by simp
set_option maxHeartbeats 1000000 in
theorem remark_yes (R : Nat) {l r : L8} (hk : remarkL l = some r) (hl : l.length ≤ 1000000) (w : World) (h : Rst w R l) (hE : Env w) :
    Calls Tryd.prog 52 #[.pointer (some ⟨R, 0, none⟩)] w fun e w' => e = .returned (.int .i64 0) ∧ Mv w w' R ∧ Rst w' R r := by
  unfold remarkL at hk
  cases hu : upL [45, 45] l with
  | none => rw [hu] at hk; cases hk
  | some x =>
    obtain ⟨a, b⟩ := x
    rw [hu] at hk
    simp only [Option.bind_some] at hk
    have HU := Lib.hid (upTo_yes R [45, 45] up2 hu hl w h hE)
    have HT := Lib.hid (fun w1 h1 => take_yes R [62] hk w1 h1)
    clear hu hk h hE
    go_enter Tryd.func52, Tryd.ntmps52
    go_wp2_with fail
    refine HU.out.mono ?_
    rintro e w1 ⟨rfl, m1, r1⟩
    go_wp2_with fail
    refine (HT.out w1 r1).mono ?_
    rintro e w2 ⟨rfl, m2, r2⟩
    go_wp2_with fail
    go_ret
    exact ⟨rfl, m1.trans m2, r2⟩
set_option maxHeartbeats 1000000 in
theorem remark_no (R : Nat) {l : L8} (hk : remarkL l = none) (hl : l.length ≤ 1000000) (w : World) (h : Rst w R l) (hE : Env w) :
    Calls Tryd.prog 52 #[.pointer (some ⟨R, 0, none⟩)] w fun e w' => e = .returned (.int .i64 11) ∧ Mv w w' R ∧ ∃ l', Rst w' R l' := by
  unfold remarkL at hk
  cases hu : upL [45, 45] l with
  | none =>
    have HU := Lib.hid (upTo_no R [45, 45] up2 hu hl w h hE)
    clear hu hk h hE
    go_enter Tryd.func52, Tryd.ntmps52
    go_wp2_with fail
    refine HU.out.mono ?_
    rintro e w1 ⟨rfl, m1, r1⟩
    go_wp2_with fail
    go_ret
    exact ⟨rfl, m1, _, r1⟩
  | some x =>
    obtain ⟨a, b⟩ := x
    rw [hu] at hk
    simp only [Option.bind_some] at hk
    have HU := Lib.hid (upTo_yes R [45, 45] up2 hu hl w h hE)
    have HT := Lib.hid (fun w1 h1 => take_no R [62] hk w1 h1)
    clear hu hk h hE
    go_enter Tryd.func52, Tryd.ntmps52
    go_wp2_with fail
    refine HU.out.mono ?_
    rintro e w1 ⟨rfl, m1, r1⟩
    go_wp2_with fail
    refine (HT.out w1 r1).mono ?_
    rintro e w2 ⟨rfl, m2, r2⟩
    go_wp2_with fail
    go_ret
    exact ⟨rfl, m1.trans m2, _, r2⟩
/-- What a step answers: the rest, or ErrXML. -/
def StepPost (R : Nat) (o : Option L8) (w : World) (e : Ending) (w' : World) : Prop :=
  Mv w w' R ∧ ((∃ r, o = some r ∧ e = .returned (.int .i64 0) ∧ Rst w' R r) ∨ (o = none ∧ e = .returned (.int .i64 11) ∧ ∃ l', Rst w' R l'))
theorem remark_any (R : Nat) (l : L8) (hl : l.length ≤ 1000000) (w : World) (h : Rst w R l) (hE : Env w) :
    Calls Tryd.prog 52 #[.pointer (some ⟨R, 0, none⟩)] w (StepPost R (remarkL l) w) := by
  cases hk : remarkL l with
  | none => exact (remark_no R hk hl w h hE).mono fun e w' ⟨h1, h2, h3⟩ => ⟨h2, .inr ⟨rfl, h1, h3⟩⟩
  | some r => exact (remark_yes R hk hl w h hE).mono fun e w' ⟨h1, h2, h3⟩ => ⟨h2, .inl ⟨r, rfl, h1, h3⟩⟩
set_option maxHeartbeats 2000000 in
theorem instr_any (R : Nat) (l : L8) (hl : l.length ≤ 1000000) (hv : V8 l) (w : World) (h : Rst w R l) (hE : Env w) :
    Calls Tryd.prog 53 #[.pointer (some ⟨R, 0, none⟩)] w (StepPost R (instrL l) w) := by
  have HE := Lib.hid hE
  have HI : Hid (instrL l = if (nameL l).1 = [] ∨ mapL lowN (nameL l).1 = [120, 109, 108] then none
    else match tk [63, 62] (nameL l).2 with
      | some r => some r
      | none => if hasB (nameL l).2 then (upL [63, 62] (skipB (nameL l).2)).map (·.2) else none) := rfl
  have HN := Lib.hid (name_any R l hl hv w h hE)
  have hvn := v_name hv
  have hln := name_len l
  have H := Lib.hid h
  clear h hE
  generalize nameL l = x at *
  obtain ⟨n, t⟩ := x
  simp only at HN HI hvn hln
  have hlt : t.length ≤ 1000000 := by omega
  have hln2 : n.length ≤ 1000000 := by omega
  by_cases hn : n = []
  · have HX : Hid (instrL l = none) := by show _ = _; rw [HI.out, if_pos (.inl hn)]
    have hem : (strOf n).toList.isEmpty = true := by rw [str_empty, hn]; rfl
    clear HI
    subst hn
    go_enter Tryd.func53, Tryd.ntmps53
    go_wp2_with fail
    refine HN.out.mono ?_
    rintro e w1 ⟨rfl, m1, r1⟩
    go_wp2_with fail
    go_ret
    exact ⟨m1, .inr ⟨HX.out, rfl, _, r1⟩⟩
  · have hem : (strOf n).toList.isEmpty = false := by rw [str_empty]; simpa using hn
    have HM := fun W hW => Lib.hid (map_low n W hW (by omega))
    generalize mapL lowN n = q at *
    go_enter Tryd.func53, Tryd.ntmps53
    go_wp2_with fail
    refine HN.out.mono ?_
    rintro e w1 ⟨rfl, m1, r1⟩
    have hE1 := HE.out.mv H.out.ge m1
    go_wp2_with fail
    refine (HM _ hE1.1).out.mono ?_
    rintro e w2 ⟨rfl, b2⟩
    have hE2 := hE1.below hE1.2.2.2.2 b2
    have r2 := r1.below b2
    have m2 := m1.trans (Mv.of r1.lt b2)
    clear b2 m1 r1 hE1
    by_cases hq : q = [120, 109, 108]
    · have HX : Hid (instrL l = none) := by show _ = _; rw [HI.out, if_pos (.inr hq)]
      have hqs := str_is q [120, 109, 108]
      rw [decide_eq_true hq] at hqs
      clear hq
      go_wp2_with fail
      go_ret
      exact ⟨m2, .inr ⟨HX.out, rfl, _, r2⟩⟩
    · have hqs := str_is q [120, 109, 108]
      rw [decide_eq_false hq] at hqs
      rw [if_neg (by rintro (h | h); exact hn h; exact hq h)] at HI
      go_wp2_with fail
      cases hk : tk [63, 62] t with
      | some r =>
        rw [hk] at HI
        refine (take_yes R [63, 62] hk w2 r2).mono ?_
        rintro e w3 ⟨rfl, m3, r3⟩
        go_wp2_with fail
        go_ret
        exact ⟨m2.trans m3, .inl ⟨r, HI.out, rfl, r3⟩⟩
      | none =>
        rw [hk] at HI
        refine (take_no R [63, 62] hk w2 r2).mono ?_
        rintro e w3 ⟨rfl, m3, r3⟩
        have hE3 := hE2.mv H.out.ge m3
        go_wp2_with fail
        refine (blanks_any R t hlt w3 r3).mono ?_
        rintro e w4 ⟨rfl, m4, r4⟩
        have hE4 := hE3.mv H.out.ge m4
        have mm := (m2.trans m3).trans m4
        cases hb : hasB t with
        | false =>
          rw [hb] at HI
          go_wp2_with fail
          go_ret
          exact ⟨mm, .inr ⟨HI.out, rfl, _, r4⟩⟩
        | true =>
          rw [hb] at HI
          have hls : (skipB t).length ≤ 1000000 := by have := skip_len t; omega
          go_wp2_with fail
          cases hu : upL [63, 62] (skipB t) with
          | none =>
            rw [hu] at HI
            refine (upTo_no R [63, 62] (by simp) hu hls w4 r4 hE4).mono ?_
            rintro e w5 ⟨rfl, m5, r5⟩
            go_wp2_with fail
            go_ret
            exact ⟨mm.trans m5, .inr ⟨HI.out, rfl, _, r5⟩⟩
          | some y =>
            obtain ⟨y1, y2⟩ := y
            rw [hu] at HI
            refine (upTo_yes R [63, 62] (by simp) hu hls w4 r4 hE4).mono ?_
            rintro e w5 ⟨rfl, m5, r5⟩
            go_wp2_with fail
            go_ret
            exact ⟨mm.trans m5, .inl ⟨y2, HI.out, rfl, r5⟩⟩
set_option maxHeartbeats 2000000 in
theorem heading_any (R : Nat) (l : L8) (hl : l.length ≤ 1000000) (w : World) (h : Rst w R l) (hE : Env w) :
    Calls Tryd.prog 35 #[.pointer (some ⟨R, 0, none⟩)] w (StepPost R (headingL l) w) := by
  have HE := Lib.hid hE
  have HI : Hid (headingL l = match tk [60, 63, 120, 109, 108] l with
    | none => some l
    | some b => if hasB b then (upL [63, 62] b).map (·.2) else some l) := rfl
  have hc := h.cell
  have hf := h.frz
  have H := Lib.hid h
  have HC := Lib.hid (Tryd.strings_CutPrefix (strOf l) (strOf [60, 63, 120, 109, 108]) w)
  rw [str_data, str_data] at HC
  clear h hE
  cases hk : tk [60, 63, 120, 109, 108] l with
  | none =>
    rw [hk] at HI
    rw [show Lib.trimPrefix l [60, 63, 120, 109, 108] = l by unfold Lib.trimPrefix Lib.hasPrefix; rw [tk_none hk]; rfl, show Lib.hasPrefix l [60, 63, 120, 109, 108] = false from tk_none hk] at HC
    clear hk
    go_enter Tryd.func35, Tryd.ntmps35
    go_wp2_with fail
    refine HC.out.mono ?_
    rintro e w1 ⟨rfl, rfl⟩
    go_wp2_with fail
    go_ret
    exact ⟨Mv.refl _ _, .inl ⟨l, HI.out, rfl, H.out⟩⟩
  | some b =>
    rw [hk] at HI
    have hb1 := tk_len hk
    have hbl : b.length ≤ 1000000 := by omega
    rw [show Lib.trimPrefix l [60, 63, 120, 109, 108] = b by unfold Lib.trimPrefix Lib.hasPrefix; rw [(tk_some hk).1, (tk_some hk).2]; rfl, show Lib.hasPrefix l [60, 63, 120, 109, 108] = true from (tk_some hk).1] at HC
    clear hk hb1
    have HR := Lib.hid (below_set H.out (Below.refl _ w) b)
    cases b with
    | nil =>
      go_enter Tryd.func35, Tryd.ntmps35
      go_wp2_with fail
      refine HC.out.mono ?_
      rintro e w1 ⟨rfl, rfl⟩
      go_wp2_with fail
      go_ret
      exact ⟨Mv.refl _ _, .inl ⟨l, HI.out, rfl, H.out⟩⟩
    | cons c t =>
      have hem : (strOf (c :: t)).toList.isEmpty = false := by rw [str_empty]; rfl
      have h0 : 0 < (strOf (c :: t)).size := by rw [size8]; simp
      have hx : (strOf (c :: t))[0]'h0 = c := rfl
      have HBl := fun W => Lib.hid (blank_any c W)
      have HI2 : Hid (headingL l = if isBl c then (upL [63, 62] (c :: t)).map (·.2) else some l) := HI
      clear HI
      have HC2 : Hid (Calls Tryd.prog 48 #[.string (strOf l), .string (strOf [60, 63, 120, 109, 108])] w fun e w' => e = .returned (.tuple #[.string (strOf (c :: t)), .bool true]) ∧ w' = w) := HC
      clear HC
      generalize c :: t = b at *
      cases hbb : isBl c with
      | false =>
        rw [hbb] at HBl HI2
        go_enter Tryd.func35, Tryd.ntmps35
        go_wp2_with fail
        refine HC2.out.mono ?_
        rintro e w1 ⟨rfl, rfl⟩
        go_wp2_with fail
        refine (HBl _).out.mono ?_
        rintro e w2 ⟨rfl, rfl⟩
        go_wp2_with fail
        go_ret
        exact ⟨Mv.refl _ _, .inl ⟨l, HI2.out, rfl, H.out⟩⟩
      | true =>
        rw [hbb] at HBl HI2
        have hE1 := HE.out.mv H.out.ge HR.out.1
        have HE1 := Lib.hid hE1
        clear hE1
        go_enter Tryd.func35, Tryd.ntmps35
        go_wp2_with fail
        refine HC2.out.mono ?_
        rintro e w1 ⟨rfl, rfl⟩
        go_wp2_with fail
        refine (HBl _).out.mono ?_
        rintro e w2 ⟨rfl, rfl⟩
        go_wp2_with fail
        cases hu : upL [63, 62] b with
        | none =>
          rw [hu] at HI2
          refine (upTo_no R [63, 62] (by simp) hu hbl _ HR.out.2 HE1.out).mono ?_
          rintro e w5 ⟨rfl, m5, r5⟩
          go_wp2_with fail
          go_ret
          exact ⟨HR.out.1.trans m5, .inr ⟨HI2.out, rfl, _, r5⟩⟩
        | some y =>
          obtain ⟨y1, y2⟩ := y
          rw [hu] at HI2
          refine (upTo_yes R [63, 62] (by simp) hu hbl _ HR.out.2 HE1.out).mono ?_
          rintro e w5 ⟨rfl, m5, r5⟩
          go_wp2_with fail
          go_ret
          exact ⟨HR.out.1.trans m5, .inl ⟨y2, HI2.out, rfl, r5⟩⟩
end Go.Proofs.YtbehfhdkdekjfaaDoor
