/- The reader's document; checkSigns; xml.Parse. -/
import Derived.Test.YtbehfhdkdekjfaaDoorXmPa
import Derived.Test.YtbehfhdkdekjfaaDoorXmW4
namespace Go.Proofs.YtbehfhdkdekjfaaDoor
open Go.RowKit
set_option maxRecDepth 100000

theorem v_between : ∀ (f : Nat) (l r : L8), betweenL f l = some r → V8 l → V8 r ∧ r.length ≤ l.length
  | 0, l, r, h, _ => by simp [betweenL] at h
  | f + 1, l, r, h, hv => by
    have hs := skip_len l
    have hvs := v_skip hv
    unfold betweenL at h
    split at h
    · rename_i x hk
      have hkl := tk_len hk
      have hvx := v_tk hk (by decide) hvs
      split at h
      · cases h
      · rename_i y hy
        have h1 := v_remark hy hvx
        have h2 := v_between f y r h h1.1
        exact ⟨h2.1, by omega⟩
    · split at h
      · rename_i x hk
        have hkl := tk_len hk
        have hvx := v_tk hk (by decide) hvs
        split at h
        · cases h
        · rename_i y hy
          have h1 := v_instr hy hvx
          have h2 := v_between f y r h h1.1
          exact ⟨h2.1, by omega⟩
      · injection h with h
        subst h
        exact ⟨hvs, hs⟩
theorem v_heading {l r : L8} (h : headingL l = some r) (hv : V8 l) : V8 r ∧ r.length ≤ l.length := by
  unfold headingL at h
  split at h
  · injection h with h; subst h; exact ⟨hv, Nat.le_refl _⟩
  · rename_i b hk
    have hkl := tk_len hk
    have hvb := v_tk hk (by decide) hv
    split at h
    · cases hu : upL [63, 62] b with
      | none => rw [hu] at h; cases h
      | some x =>
        obtain ⟨a, c⟩ := x
        rw [hu] at h
        simp only [Option.map_some, Option.some.injEq] at h
        subst h
        have := up_len hu
        exact ⟨(v_up hu (by decide) (by decide) hvb).2, by omega⟩
    · injection h with h; subst h; exact ⟨hv, Nat.le_refl _⟩
def DocPost (R : Nat) (l : L8) (w : World) (e : Ending) (w' : World) : Prop :=
  Below R w w' ∧ ((∃ s', docL l = .ok s'.nodes ∧ e = .returned (.int .i64 0) ∧ Rd w' R s') ∨ (∃ c, docL l = .error c ∧ e = .returned (.int .i64 c) ∧ (c = 3 ∨ c = 11 ∨ c = 12)))
def st0 (l : L8) : St := { rest := l, nodes := [], opn := [], text := [] }
theorem wf0 {l : L8} (hv : V8 l) (hl : l.length ≤ 100000) : Wf (st0 l) := ⟨hv, by simp [st0], by simp [st0], by simp [st0], by simp only [st0, List.length_nil]; omega, by simp [st0]⟩
/-- The last part. -/
def lastL (s : St) : Except Int (List Nd) := match betweenL (s.rest.length + 1) s.rest with
  | none => .error 11
  | some r => if r = [] then .ok s.nodes else .error 11
def bodyL (s : St) : Except Int (List Nd) := match partsS (s.rest.length + 1) s with
  | .error e => .error e
  | .ok s => lastL s
theorem doc_eq (l : L8) : docL l = match headingL l with
    | none => .error 11
    | some l1 => match betweenL (l1.length + 1) l1 with
      | none => .error 11
      | some l2 => match tk [60] l2 with
        | none => .error 11
        | some l3 => match beginS (st0 l3) with
          | .error e => .error e
          | .ok s => bodyL s := rfl
set_option maxHeartbeats 4000000 in
theorem document_any (R : Nat) (l : L8) (w : World) (h : Rd w R (st0 l)) (hv : V8 l) (hl : l.length ≤ 100000) (hE : Env w) :
    Calls Tryd.prog 21 #[.pointer (some ⟨R, 0, none⟩)] w (DocPost R l w) := by
  have HD := Lib.hid h
  have HE := Lib.hid hE
  have hge : 8 ≤ R := h.rst.ge
  have hRs : R ≤ w.heap.size := Nat.le_of_lt h.rst.lt
  have r0 : Rst w R l := h.rst
  have HQ := Lib.hid (doc_eq l)
  have HH := Lib.hid (heading_any R l (by omega) w r0 hE)
  have HB := fun (t : L8) (ht : t.length ≤ 100000) (hvt : V8 t) (W : World) (hr : Rst W R t) (hW : Env W) => between_any R t (by omega) hvt W hr hW
  have HBT := Lib.hid HB
  clear h hE HB
  go_enter Tryd.func21, Tryd.ntmps21
  go_wp2_with fail
  refine HH.out.mono ?_
  rintro e w1 ⟨m1, ⟨l1, hh, rfl, r1⟩ | ⟨hh, rfl, l', r1⟩⟩
  · rw [hh] at HQ
    have hv1 := v_heading hh hv
    have HM1 := Lib.hid m1
    have hE1 := HE.out.mv hge m1
    clear hh m1
    go_wp2_with fail
    refine (HBT.out l1 (by omega) hv1.1 w1 r1 hE1).mono ?_
    rintro e w2 ⟨m2, ⟨l2, hb, rfl, r2⟩ | ⟨hb, rfl, l', r2⟩⟩
    · have HQ2 : Hid (docL l = match tk [60] l2 with
        | none => .error 11
        | some l3 => match beginS (st0 l3) with
          | .error e => .error e
          | .ok s => bodyL s) := by
        show _ = _
        rw [HQ.out]
        simp only [hb]
      have hv2 := v_between _ _ _ hb hv1.1
      have HM2 := Lib.hid (HM1.out.trans m2)
      have hE2 := hE1.mv hge m2
      clear hb m2 HQ
      go_wp2_with fail
      cases hk : tk [60] l2 with
      | none =>
        rw [hk] at HQ2
        refine (take_no R [60] hk w2 r2).mono ?_
        rintro e w3 ⟨rfl, m3, r3⟩
        have HM3 := Lib.hid (HM2.out.trans m3)
        clear hk m3
        go_wp2_with fail
        go_ret
        exact ⟨HM3.out.below (Nat.le_refl _) hRs, .inr ⟨11, HQ2.out, rfl, .inr (.inl rfl)⟩⟩
      | some l3 =>
        rw [hk] at HQ2
        have HQ3 : Hid (docL l = match beginS (st0 l3) with
          | .error e => .error e
          | .ok s => bodyL s) := HQ2
        have hkl := tk_len hk
        have hv3 := v_tk hk (by decide) hv2.1
        simp only [List.length_cons, List.length_nil] at hkl
        refine (take_yes R [60] hk w2 r2).mono ?_
        rintro e w3 ⟨rfl, m3, r3⟩
        have HM3 := Lib.hid (HM2.out.trans m3)
        have hE3 := hE2.mv hge m3
        clear hk m3 HQ2
        have hD3 : Rd w3 R (st0 l3) := HD.out.mv HM3.out r3
        go_wp2_with fail
        refine (beginning_any R (st0 l3) w3 hD3 (wf0 hv3 (by omega)) rfl (by show l3.length ≤ _; omega) hE3).mono ?_
        rintro e w4 ⟨b4, ⟨s4, hs4, rfl, hD4, hW4, hl4⟩ | ⟨c, hs4, rfl, hcc⟩⟩
        · rw [hs4] at HQ3
          have HQ4 : Hid (docL l = bodyL s4) := HQ3
          have HB4 := Lib.hid ((HM3.out.below (Nat.le_refl _) hRs).trans b4)
          have hl4' : s4.rest.length < l3.length := hl4
          clear hs4 HQ3 b4
          have HD4 := Lib.hid hD4
          have HW4 := Lib.hid hW4
          clear hD4 hW4 hD3 r0 r1 r2 r3 HD
          go_wp2_with fail
          go_loopg [6] s4.rest.length (fun gg _ wr => ∃ (s : St) (f : Nat), s.rest.length ≤ gg ∧ s.rest.length < f ∧ s.rest.length ≤ 100000 ∧ Hid (Rd wr R s) ∧ Hid (Wf s) ∧ Hid (Below R w wr) ∧ Hid (partsS f s = partsS (s4.rest.length + 1) s4))
          case atStart => exact ⟨s4, s4.rest.length + 1, Nat.le_refl _, Nat.lt_succ_self _, by omega, HD4, HW4, HB4, rfl⟩
          case round =>
            obtain ⟨s, f, hsg, hsf, hsl, HDs, HWs, HBs, HPs⟩ := hrel
            obtain ⟨vn, vo, vt, avs, hV⟩ := HDs.out
            obtain ⟨Ao, co, hvo, hco, hcm, _, _⟩ := own_form hV.rows.o
            have c2 := hV.cel.c2
            rw [hvo] at c2
            have rs := hV.rst
            have hEs := HE.out.below hge HBs.out
            obtain ⟨no, hno⟩ : ∃ no, no = s.opn.length := ⟨_, rfl⟩
            have HNO := Lib.hid hno
            rw [← hno] at c2 hco
            clear hV hvo hno
            rcases Nat.eq_zero_or_pos no with h0 | h0
            · have hopn : s.opn = [] := List.eq_nil_of_length_eq_zero (by rw [← HNO.out]; exact h0)
              have HQ5 : Hid (docL l = lastL s) := by
                show _ = _
                rw [HQ4.out]
                unfold bodyL
                rw [← HPs.out]
                obtain ⟨f', rfl⟩ : ∃ f', f = f' + 1 := ⟨f - 1, by omega⟩
                rw [partsS, if_pos hopn]
              subst h0
              clear hopn
              go_wp2_with fail
              refine (HBT.out s.rest hsl HWs.out.v wr rs hEs).mono ?_
              rintro e w6 ⟨m6, ⟨r6, hb6, rfl, rr6⟩ | ⟨hb6, rfl, l', rr6⟩⟩
              · have HQ6 : Hid (docL l = if r6 = [] then .ok s.nodes else .error 11) := by
                  show _ = _
                  rw [HQ5.out]
                  unfold lastL
                  simp only [hb6]
                have HM6 := Lib.hid m6
                have hc6 := rr6.cell
                have hD6 := HDs.out.mv m6 rr6
                have hRr : R ≤ wr.heap.size := Nat.le_of_lt rs.lt
                clear hb6 m6
                by_cases hr6 : r6 = []
                · rw [if_pos hr6] at HQ6
                  have hem : (strOf r6).toList.isEmpty = true := by rw [str_empty, hr6]; rfl
                  clear hr6
                  go_wp2_with fail
                  go_ret
                  exact ⟨HBs.out.trans (HM6.out.below (Nat.le_refl _) hRr), .inl ⟨{ s with rest := r6 }, HQ6.out, rfl, hD6⟩⟩
                · rw [if_neg hr6] at HQ6
                  have hem : (strOf r6).toList.isEmpty = false := by rw [str_empty]; simpa using hr6
                  clear hr6
                  go_wp2_with fail
                  go_ret
                  exact ⟨HBs.out.trans (HM6.out.below (Nat.le_refl _) hRr), .inr ⟨11, HQ6.out, rfl, .inr (.inl rfl)⟩⟩
              · have HQ6 : Hid (docL l = .error 11) := by
                  show _ = _
                  rw [HQ5.out]
                  unfold lastL
                  simp only [hb6]
                have HM6 := Lib.hid m6
                have hRr : R ≤ wr.heap.size := Nat.le_of_lt rs.lt
                clear hb6 m6
                go_wp2_with fail
                go_ret
                exact ⟨HBs.out.trans (HM6.out.below (Nat.le_refl _) hRr), .inr ⟨11, HQ6.out, rfl, .inr (.inl rfl)⟩⟩
            · have hopn : s.opn ≠ [] := by intro e; have := HNO.out; rw [e] at this; simp at this; omega
              have HOP := Lib.hid hopn
              have h0i : (0 : Int) < (no : Int) := by omega
              clear hopn h0
              go_wp2_with fail
              refine (part_any R s wr HDs.out HWs.out HOP.out (by omega) hEs).mono ?_
              rintro e w6 ⟨b6, ⟨s6, hs6, rfl, hD6, hW6, hl6⟩ | ⟨c, hs6, rfl, hcc⟩⟩
              · obtain ⟨f6, hf6, hp6⟩ := hs6 f hsf
                have HP6 : Hid (partsS f6 s6 = partsS (s4.rest.length + 1) s4) := hp6.symm.trans HPs.out
                have HB6 := Lib.hid (HBs.out.trans b6)
                clear hs6 hp6 b6
                have HD6 := Lib.hid hD6
                have HW6 := Lib.hid hW6
                clear hD6 hW6
                go_wp2_with fail
                go_roundg s6.rest.length
                case rel => exact ⟨s6, f6, Nat.le_refl _, hf6, by omega, HD6, HW6, HB6, HP6⟩
                case measure => omega
              · have HQ6 : Hid (docL l = .error c) := by
                  show _ = _
                  rw [HQ4.out]
                  unfold bodyL
                  rw [← HPs.out, hs6 f hsf]
                have HB6 := Lib.hid (HBs.out.trans b6)
                clear hs6 b6
                have hc0 : (c == 0) = false := beq_eq_false_iff_ne.2 (by omega)
                have HCC := Lib.hid hcc
                clear hcc
                go_wp2_with fail
                go_ret
                exact ⟨HB6.out, .inr ⟨c, HQ6.out, rfl, HCC.out⟩⟩
        · rw [hs4] at HQ3
          have HB4 := Lib.hid ((HM3.out.below (Nat.le_refl _) hRs).trans b4)
          have hc0 : (c == 0) = false := beq_eq_false_iff_ne.2 (by omega)
          have HCC := Lib.hid hcc
          clear hs4 b4 hcc
          go_wp2_with fail
          go_ret
          exact ⟨HB4.out, .inr ⟨c, HQ3.out, rfl, HCC.out⟩⟩
    · have HQ2 : Hid (docL l = .error 11) := by
        show _ = _
        rw [HQ.out]
        simp only [hb]
      have HM2 := Lib.hid (HM1.out.trans m2)
      clear hb m2 HQ
      go_wp2_with fail
      go_ret
      exact ⟨HM2.out.below (Nat.le_refl _) hRs, .inr ⟨11, HQ2.out, rfl, .inr (.inl rfl)⟩⟩
  · rw [hh] at HQ
    have HM1 := Lib.hid m1
    clear hh m1
    go_wp2_with fail
    go_ret
    exact ⟨HM1.out.below (Nat.le_refl _) hRs, .inr ⟨11, HQ.out, rfl, .inr (.inl rfl)⟩⟩
end Go.Proofs.YtbehfhdkdekjfaaDoor
