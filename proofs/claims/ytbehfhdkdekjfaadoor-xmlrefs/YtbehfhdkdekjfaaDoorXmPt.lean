/- The reader's mark, part. -/
import Derived.Test.YtbehfhdkdekjfaaDoorXmEn
namespace Go.Proofs.YtbehfhdkdekjfaaDoor
open Go.RowKit
set_option maxRecDepth 100000

theorem Wf.to {s : St} (h : Wf s) {r : L8} (hv : V8 r) (hl : r.length ≤ s.rest.length) : Wf { s with rest := r } := ⟨hv, h.o, h.on, h.nn, by have := h.tb; show s.text.length + 4 * r.length ≤ _; omega, h.tn⟩
theorem step_st {R : Nat} {s : St} {o : Option L8} {w w' : World} {e : Ending} (hd : Rd w R s) (hw : Wf s) (hvo : ∀ r, o = some r → V8 r ∧ r.length < s.rest.length) (h : StepPost R o w e w') : StPost R s.rest.length (ofO s o) w e w' := by
  obtain ⟨m, h⟩ := h
  refine ⟨m.below (Nat.le_refl _) (Nat.le_of_lt hd.rst.lt), ?_⟩
  rcases h with ⟨r, rfl, he, hr⟩ | ⟨rfl, he, _⟩
  · have := hvo r rfl
    exact .inl ⟨_, rfl, he, hd.mv m hr, hw.to this.1 (by omega), this.2⟩
  · exact .inr ⟨11, rfl, he, .inr (.inl rfl)⟩
theorem StPost.to {R a b : Nat} {r : Except Int St} {w0 w w' : World} {e : Ending} (h : StPost R a r w e w') (hab : a ≤ b) (hb : Below R w0 w) : StPost R b r w0 e w' := by
  obtain ⟨h1, h2⟩ := h
  refine ⟨hb.trans h1, ?_⟩
  rcases h2 with ⟨s', a1, a2, a3, a4, a5⟩ | h2
  · exact .inl ⟨s', a1, a2, a3, a4, by omega⟩
  · exact .inr h2
set_option maxHeartbeats 4000000 in
theorem mark_any (R : Nat) (s : St) (w : World) (h : Rd w R s) (hw : Wf s) (hne : s.opn ≠ []) (htx : s.text = []) (u : L8) (hr : s.rest = 60 :: u) (hl : s.rest.length ≤ 1000000) (hE : Env w) :
    Calls Tryd.prog 60 #[.pointer (some ⟨R, 0, none⟩)] w (StPost R s.rest.length (markS s) w) := by
  have HD := Lib.hid h
  have HW := Lib.hid hw
  have HNE := Lib.hid hne
  have HTX := Lib.hid htx
  have HE := Lib.hid hE
  have HRU := Lib.hid hr
  have hge : 8 ≤ R := h.rst.ge
  have hRs : R ≤ w.heap.size := Nat.le_of_lt h.rst.lt
  have r0 := h.rst
  have hv := hw.v
  have HG : Hid (markS s = match tk [60, 33, 45, 45] s.rest with
    | some r => ofO s (remarkL r)
    | none => match tk [60, 63] s.rest with
    | some r => ofO s (instrL r)
    | none => match tk [60, 47] s.rest with
    | some r => endS { s with rest := r }
    | none => beginS { s with rest := s.rest.drop 1 }) := rfl
  clear h hw hne htx hE hr
  obtain ⟨l, hlr⟩ : ∃ l, l = s.rest := ⟨_, rfl⟩
  have HLR := Lib.hid hlr
  rw [← hlr] at r0 hv hl HG ⊢
  clear hlr
  go_enter Tryd.func60, Tryd.ntmps60
  go_wp2_with fail
  cases hk : tk [60, 33, 45, 45] l with
  | some r =>
    rw [hk] at HG
    have hkl := tk_len hk
    have hvr := v_tk hk (by decide) hv
    have hkl2 : r.length + 4 = l.length := by simp only [List.length_cons, List.length_nil] at hkl; omega
    refine (take_yes R [60, 33, 45, 45] hk w r0).mono ?_
    rintro e w1 ⟨rfl, m1, r1⟩
    have HM := Lib.hid m1
    have hE1 := HE.out.mv hge m1
    clear hk m1 hkl
    go_wp2_with fail
    refine (remark_any R r (by omega) w1 r1 hE1).mono ?_
    intro e w2 hp
    have hst := step_st (HD.out.mv HM.out r1) (HW.out.to (r := r) hvr (by rw [← HLR.out]; omega)) (fun r' h' => v_remark h' hvr) hp
    have hst2 := hst.to (b := l.length) (by show r.length ≤ _; omega) (HM.out.below (Nat.le_refl _) hRs)
    have HF : Hid (StPost R l.length (markS s) w e w2) := by rw [HG.out]; exact hst2
    rcases hp with ⟨_, ⟨r', _, rfl, _⟩ | ⟨_, rfl, _⟩⟩
    · go_wp2_with fail
      go_ret
      exact HF.out
    · go_wp2_with fail
      go_ret
      exact HF.out
  | none =>
    rw [hk] at HG
    refine (take_no R [60, 33, 45, 45] hk w r0).mono ?_
    rintro e w1 ⟨rfl, m1, r1⟩
    have HM1 := Lib.hid m1
    have hE1 := Lib.hid (HE.out.mv hge m1)
    clear hk m1
    go_wp2_with fail
    cases hk : tk [60, 63] l with
    | some r =>
      rw [hk] at HG
      have hkl := tk_len hk
      have hvr := v_tk hk (by decide) hv
      have hkl2 : r.length + 2 = l.length := by simp only [List.length_cons, List.length_nil] at hkl; omega
      refine (take_yes R [60, 63] hk w1 r1).mono ?_
      rintro e w2 ⟨rfl, m2, r2⟩
      have HM := Lib.hid (HM1.out.trans m2)
      have hE2 := hE1.out.mv hge m2
      clear hk m2 hkl
      go_wp2_with fail
      refine (instr_any R r (by omega) hvr w2 r2 hE2).mono ?_
      intro e w3 hp
      have hst := step_st (HD.out.mv HM.out r2) (HW.out.to (r := r) hvr (by rw [← HLR.out]; omega)) (fun r' h' => v_instr h' hvr) hp
      have hst2 := hst.to (b := l.length) (by show r.length ≤ _; omega) (HM.out.below (Nat.le_refl _) hRs)
      have HF : Hid (StPost R l.length (markS s) w e w3) := by rw [HG.out]; exact hst2
      rcases hp with ⟨_, ⟨r', _, rfl, _⟩ | ⟨_, rfl, _⟩⟩
      · go_wp2_with fail
        go_ret
        exact HF.out
      · go_wp2_with fail
        go_ret
        exact HF.out
    | none =>
      rw [hk] at HG
      refine (take_no R [60, 63] hk w1 r1).mono ?_
      rintro e w2 ⟨rfl, m2, r2⟩
      have HM2 := Lib.hid (HM1.out.trans m2)
      have hE2 := Lib.hid (hE1.out.mv hge m2)
      clear hk m2
      go_wp2_with fail
      cases hk : tk [60, 47] l with
      | some r =>
        rw [hk] at HG
        have hkl := tk_len hk
        have hvr := v_tk hk (by decide) hv
        have hkl2 : r.length + 2 = l.length := by simp only [List.length_cons, List.length_nil] at hkl; omega
        refine (take_yes R [60, 47] hk w2 r2).mono ?_
        rintro e w3 ⟨rfl, m3, r3⟩
        have HM := Lib.hid (HM2.out.trans m3)
        have hE3 := hE2.out.mv hge m3
        clear hk m3 hkl
        go_wp2_with fail
        refine (end_any R { s with rest := r } w3 (HD.out.mv HM.out r3) (HW.out.to (r := r) hvr (by rw [← HLR.out]; omega)) HNE.out HTX.out (by show r.length ≤ _; omega) hE3).mono ?_
        intro e w4 hp
        have hst2 := hp.to (b := l.length) (by show r.length + 1 ≤ _; omega) (HM.out.below (Nat.le_refl _) hRs)
        have HF : Hid (StPost R l.length (markS s) w e w4) := by rw [HG.out]; exact hst2
        rcases hp with ⟨_, ⟨s', _, rfl, _⟩ | ⟨c, _, rfl, _⟩⟩
        · go_wp2_with fail
          go_ret
          exact HF.out
        · go_wp2_with fail
          go_ret
          exact HF.out
      | none =>
        rw [hk] at HG
        refine (take_no R [60, 47] hk w2 r2).mono ?_
        rintro e w3 ⟨rfl, m3, r3⟩
        have HM3 := Lib.hid (HM2.out.trans m3)
        have hE3 := Lib.hid (hE2.out.mv hge m3)
        clear hk m3
        have hlu : l = 60 :: u := by rw [HLR.out, HRU.out]
        have hk60 : tk [60] l = some u := by rw [hlu, tk1, if_pos rfl]
        have hvu := v_tk hk60 (by decide) hv
        have hlen : l.length = u.length + 1 := by rw [hlu]; rfl
        have HG2 : Hid (markS s = beginS { s with rest := u }) := by show _ = _; rw [HG.out, hlu]; rfl
        clear hlu
        go_wp2_with fail
        refine (take_yes R [60] hk60 w3 r3).mono ?_
        rintro e w4 ⟨rfl, m4, r4⟩
        have HM := Lib.hid (HM3.out.trans m4)
        have hE4 := hE3.out.mv hge m4
        clear m4 hk60
        go_wp2_with fail
        refine (beginning_any R { s with rest := u } w4 (HD.out.mv HM.out r4) (HW.out.to (r := u) hvu (by rw [← HLR.out]; omega)) HTX.out (by show u.length ≤ _; omega) hE4).mono ?_
        intro e w5 hp
        have hst2 := hp.to (b := l.length) (by show u.length ≤ _; omega) (HM.out.below (Nat.le_refl _) hRs)
        have HF : Hid (StPost R l.length (markS s) w e w5) := by rw [HG2.out]; exact hst2
        rcases hp with ⟨_, ⟨s', _, rfl, _⟩ | ⟨c, _, rfl, _⟩⟩
        · go_wp2_with fail
          go_ret
          exact HF.out
        · go_wp2_with fail
          go_ret
          exact HF.out
end Go.Proofs.YtbehfhdkdekjfaaDoor
