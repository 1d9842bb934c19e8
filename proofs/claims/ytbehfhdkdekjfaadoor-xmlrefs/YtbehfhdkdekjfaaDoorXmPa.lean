/- The reader's part. -/
import Derived.Test.YtbehfhdkdekjfaaDoorXmPt
namespace Go.Proofs.YtbehfhdkdekjfaaDoor
open Go.RowKit
set_option maxRecDepth 100000

/-- What part answers: some steps of the plain function at once. -/
def PaPost (R : Nat) (s : St) (w : World) (e : Ending) (w' : World) : Prop :=
  Below R w w' ∧ ((∃ s', (∀ f, s.rest.length < f → ∃ f', s'.rest.length < f' ∧ partsS f s = partsS f' s') ∧ e = .returned (.int .i64 0) ∧ Rd w' R s' ∧ Wf s' ∧ s'.rest.length < s.rest.length) ∨
    (∃ c, (∀ f, s.rest.length < f → partsS f s = .error c) ∧ e = .returned (.int .i64 c) ∧ (c = 3 ∨ c = 11 ∨ c = 12)))
theorem parts_ok {s s' : St} (hne : s.opn ≠ []) (h : partS s = .ok s') (hl : s'.rest.length < s.rest.length) : ∀ f, s.rest.length < f → ∃ f', s'.rest.length < f' ∧ partsS f s = partsS f' s' := by
  intro f hf
  obtain ⟨f, rfl⟩ : ∃ f', f = f' + 1 := ⟨f - 1, by omega⟩
  exact ⟨f, by omega, by rw [partsS, if_neg hne, h]⟩
theorem parts_err {s : St} {c : Int} (hne : s.opn ≠ []) (h : partS s = .error c) : ∀ f, s.rest.length < f → partsS f s = .error c := by
  intro f hf
  obtain ⟨f, rfl⟩ : ∃ f', f = f' + 1 := ⟨f - 1, by omega⟩
  rw [partsS, if_neg hne, h]
theorem pa_of {R n : Nat} {s : St} {w w' : World} {e : Ending} (hne : s.opn ≠ []) (hn : n ≤ s.rest.length) (h : StPost R n (partS s) w e w') : PaPost R s w e w' := by
  obtain ⟨h1, ⟨s', a1, a2, a3, a4, a5⟩ | ⟨c, a1, a2, a3⟩⟩ := h
  · exact ⟨h1, .inl ⟨s', parts_ok hne a1 (by omega), a2, a3, a4, by omega⟩⟩
  · exact ⟨h1, .inr ⟨c, parts_err hne a1, a2, a3⟩⟩
/-- goOn, told as StPost. -/
theorem goOn_st {R : Nat} {s : St} {u : L8} {w w' : World} {e : Ending} {n : Nat} (hw : Wf s) (hn : s.rest.length < n) (hb : u.length + s.text.length + 4 * s.rest.length ≤ 4000000)
    (h : Below R w w' ∧ ((∃ s', goOn s u = .ok s' ∧ e = .returned (.int .i64 0) ∧ Rd w' R s') ∨ (∃ c, goOn s u = .error c ∧ e = .returned (.int .i64 c)))) : StPost R n (goOn s u) w e w' := by
  obtain ⟨h1, ⟨s', a1, a2, a3⟩ | ⟨c, a1, a2⟩⟩ := h
  · refine ⟨h1, .inl ⟨s', a1, a2, a3, ?_⟩⟩
    unfold goOn at a1
    split at a1
    · cases a1
    · rename_i hc
      injection a1 with a1
      subst a1
      refine ⟨⟨hw.v, hw.o, hw.on, hw.nn, by show (s.text ++ u).length + 4 * s.rest.length ≤ _; rw [List.length_append]; omega, fun hx => ?_⟩, hn⟩
      show s.nodes.length < 16384
      have h16 := hw.nn
      by_cases hu : u = []
      · refine hw.tn ?_
        intro e
        exact hx (by show s.text ++ u = []; rw [hu, e]; rfl)
      · have : s.nodes.length ≠ 16384 := fun e => hc ⟨hu, e⟩
        omega
  · refine ⟨h1, .inr ⟨c, a1, a2, .inl ?_⟩⟩
    unfold goOn at a1
    split at a1
    · injection a1 with a1; exact a1.symm
    · cases a1
theorem pre_first (c : UInt8) (p t : L8) (x : UInt8) (h : x ≠ c) : (c :: p).isPrefixOf (x :: t) = false := by
  have : (c == x) = false := by simpa using fun e => h e.symm
  simp [List.isPrefixOf, this]
theorem part_plain (s : St) (c : UInt8) (t : L8) (hr : s.rest = c :: t) (h1 : c ≠ 60) (h2 : c ≠ 38) : partS s = if ([93, 93, 62] : L8).isPrefixOf s.rest then .error 11 else goOn { s with rest := t } [c] := by
  unfold partS
  have e1 : tk [60, 33, 91, 67, 68, 65, 84, 65, 91] s.rest = none := by unfold tk; rw [hr, pre_first _ _ _ _ h1]; rfl
  rw [e1]
  simp only
  rw [hr]
  simp only
  rw [if_neg h1, if_neg h2]
theorem parts_high (s : St) (hne : s.opn ≠ []) (hn : s.nodes.length ≠ 16384) : ∀ (u t tx : L8) (f : Nat), (∀ c ∈ u, 128 ≤ c.toNat) → partsS (u.length + f) { s with rest := u ++ t, text := tx } = partsS f { s with rest := t, text := tx ++ u }
  | [], t, tx, f, _ => by simp
  | c :: u, t, tx, f, h => by
    have hc := h c (by simp)
    have h1 : c ≠ 60 := by rintro rfl; simp at hc
    have h2 : c ≠ 38 := by rintro rfl; simp at hc
    have h3 : c ≠ 93 := by rintro rfl; simp at hc
    have hp : partS { s with rest := c :: (u ++ t), text := tx } = .ok { s with rest := u ++ t, text := tx ++ [c] } := by
      rw [part_plain _ c (u ++ t) rfl h1 h2, if_neg (by show ¬ ([93, 93, 62] : L8).isPrefixOf (c :: (u ++ t)) = true; rw [pre_first _ _ _ _ h3]; simp)]
      unfold goOn
      rw [if_neg (fun h => hn h.2)]
    rw [show (c :: u).length + f = (u.length + f) + 1 by simp; omega, List.cons_append, partsS, if_neg hne, hp]
    simp only
    have := parts_high s hne hn u t (tx ++ [c]) f (fun x hx => h x (by simp [hx]))
    rw [List.append_assoc] at this
    exact this
set_option maxHeartbeats 4000000 in
theorem part_any (R : Nat) (s : St) (w : World) (h : Rd w R s) (hw : Wf s) (hne : s.opn ≠ []) (hl : s.rest.length ≤ 1000000) (hE : Env w) :
    Calls Tryd.prog 39 #[.pointer (some ⟨R, 0, none⟩)] w (PaPost R s w) := by
  have HD := Lib.hid h
  have HW := Lib.hid hw
  have HNE := Lib.hid hne
  have HE := Lib.hid hE
  have hge : 8 ≤ R := h.rst.ge
  have hRs : R ≤ w.heap.size := Nat.le_of_lt h.rst.lt
  have r0 := h.rst
  have hv := hw.v
  have htb := hw.tb
  have HP : Hid (partS s = match tk [60, 33, 91, 67, 68, 65, 84, 65, 91] s.rest with
    | some r => (match upL [93, 93, 62] r with | none => .error 11 | some (t, r') => goOn { s with rest := r' } t)
    | none => match s.rest with
      | [] => .error 11
      | c :: t =>
        if c = 60 then markS (endText s)
        else if c = 38 then (match refL t with | none => .error 11 | some (n, r) => goOn { s with rest := r } (encS n))
        else if [93, 93, 62].isPrefixOf s.rest then .error 11
        else goOn { s with rest := t } [c]) := rfl
  clear h hw hne hE
  obtain ⟨l, hlr⟩ : ∃ l, l = s.rest := ⟨_, rfl⟩
  have HLR := Lib.hid hlr
  rw [← hlr] at r0 hv hl HP htb
  clear hlr
  go_enter Tryd.func39, Tryd.ntmps39
  go_wp2_with fail
  cases hk : tk [60, 33, 91, 67, 68, 65, 84, 65, 91] l with
  | some r =>
    rw [hk] at HP
    have HP2 : Hid (partS s = match upL [93, 93, 62] r with | none => .error 11 | some (t, r') => goOn { s with rest := r' } t) := HP
    have hkl := tk_len hk
    have hvr := v_tk hk (by decide) hv
    have hkl2 : r.length + 9 = l.length := by simp only [List.length_cons, List.length_nil] at hkl; omega
    refine (take_yes R [60, 33, 91, 67, 68, 65, 84, 65, 91] hk w r0).mono ?_
    rintro e w1 ⟨rfl, m1, r1⟩
    have HM1 := Lib.hid m1
    have hE1 := HE.out.mv hge m1
    clear hk m1 hkl HP
    go_wp2_with fail
    cases hu : upL [93, 93, 62] r with
    | none =>
      rw [hu] at HP2
      refine (upTo_no R [93, 93, 62] (by simp) hu (by omega) w1 r1 hE1).mono ?_
      rintro e w2 ⟨rfl, m2, r2⟩
      have HM2 := Lib.hid (HM1.out.trans m2)
      clear hu m2
      go_wp2_with fail
      go_ret
      exact ⟨HM2.out.below (Nat.le_refl _) hRs, .inr ⟨11, parts_err HNE.out HP2.out, rfl, .inr (.inl rfl)⟩⟩
    | some x =>
      obtain ⟨t, r'⟩ := x
      rw [hu] at HP2
      have HP3 : Hid (partS s = goOn { s with rest := r' } t) := HP2
      have hul := up_len hu
      have hvu := v_up hu (by decide) (by decide) hvr
      simp only [List.length_cons, List.length_nil] at hul
      refine (upTo_yes R [93, 93, 62] (by simp) hu (by omega) w1 r1 hE1).mono ?_
      rintro e w2 ⟨rfl, m2, r2⟩
      have HM2 := Lib.hid (HM1.out.trans m2)
      clear hu m2 HP2
      go_wp2_with fail
      refine (goOn_any R { s with rest := r' } t (by show t.length + s.text.length ≤ _; omega) w2 (HD.out.mv HM2.out r2)).mono ?_
      intro e w3 hp
      have hst := goOn_st (n := l.length) (HW.out.to (r := r') hvu.2 (by rw [← HLR.out]; omega)) (by show r'.length < _; omega) (by show t.length + s.text.length + 4 * r'.length ≤ _; omega) hp
      have hst2 := hst.to (Nat.le_refl _) (HM2.out.below (Nat.le_refl _) hRs)
      rw [← HP3.out] at hst2
      have HF := Lib.hid (pa_of HNE.out (by rw [HLR.out]; omega) hst2)
      clear hst hst2
      rcases hp with ⟨_, ⟨s', _, rfl, _⟩ | ⟨c, _, rfl⟩⟩
      · go_wp2_with fail
        go_ret
        exact HF.out
      · go_wp2_with fail
        go_ret
        exact HF.out
  | none =>
    rw [hk] at HP
    refine (take_no R [60, 33, 91, 67, 68, 65, 84, 65, 91] hk w r0).mono ?_
    rintro e w1 ⟨rfl, m1, r1⟩
    have HM1 := Lib.hid m1
    have hE1 := Lib.hid (HE.out.mv hge m1)
    have hc1 := r1.cell
    clear hk m1
    cases l with
    | nil =>
      have HP2 : Hid (partS s = .error 11) := HP
      have hem : (strOf ([] : L8)).toList.isEmpty = true := by rw [str_empty]; rfl
      go_wp2_with fail
      refine (hp_any [60] [] w1).mono ?_
      rintro e w2 ⟨rfl, rfl⟩
      have hpf : ([60] : L8).isPrefixOf [] = false := rfl
      rw [hpf]
      go_wp2_with fail
      refine (take_no R [38] (tk1_nil 38) w2 r1).mono ?_
      rintro e w3 ⟨rfl, m3, r3⟩
      have HM3 := Lib.hid (HM1.out.trans m3)
      have hc3 := r3.cell
      clear m3
      go_wp2_with fail
      go_ret
      exact ⟨HM3.out.below (Nat.le_refl _) hRs, .inr ⟨11, parts_err HNE.out HP2.out, rfl, .inr (.inl rfl)⟩⟩
    | cons c t =>
      have HP2 : Hid (partS s = if c = 60 then markS (endText s)
        else if c = 38 then (match refL t with | none => .error 11 | some (n, r) => goOn { s with rest := r } (encS n))
        else if [93, 93, 62].isPrefixOf (c :: t) then .error 11
        else goOn { s with rest := t } [c]) := HP
      have hem : (strOf (c :: t)).toList.isEmpty = false := by rw [str_empty]; rfl
      clear HP
      go_wp2_with fail
      refine (hp_any [60] (c :: t) w1).mono ?_
      rintro e w2 ⟨rfl, rfl⟩
      rw [hp1]
      by_cases h60 : c = 60
      · rw [if_pos h60] at HP2
        rw [decide_eq_true h60]
        have hD1 : Rd w2 R s := by have := HD.out.mv HM1.out r1; rw [HLR.out] at this; exact this
        have HC := Lib.hid h60
        clear h60
        go_wp2_with fail
        refine (endText_any R s w2 hD1 HW.out).mono ?_
        rintro e w3 ⟨⟨v3, rfl⟩, b3, hD3⟩
        have HB3 := Lib.hid ((HM1.out.below (Nat.le_refl _) hRs).trans b3)
        have hE3 := hE1.out.below hge b3
        have hes : (endText s).rest = s.rest ∧ (endText s).opn = s.opn ∧ (endText s).text = [] ∧ Wf (endText s) := by
          unfold endText
          split
          · rename_i ht; exact ⟨rfl, rfl, ht, HW.out⟩
          · rename_i ht
            have hls := listS_rest s [] s.text []
            have h16 := HW.out.tn ht
            refine ⟨rfl, rfl, rfl, HW.out.v, fun k hk => ?_, HW.out.on, ?_, ?_, fun hx => absurd rfl hx⟩
            · show k < (listS s [] s.text []).nodes.length
              rw [hls.2.2.2]
              exact Nat.lt_succ_of_lt (HW.out.o k hk)
            · show (listS s [] s.text []).nodes.length ≤ _
              rw [hls.2.2.2]; omega
            · show ([] : L8).length + 4 * s.rest.length ≤ _
              have := HW.out.tb
              simp only [List.length_nil]; omega
        have HES := Lib.hid hes
        clear hes
        go_wp2_with fail
        refine (mark_any R (endText s) w3 hD3 HES.out.2.2.2 (by rw [HES.out.2.1]; exact HNE.out) HES.out.2.2.1 t (by rw [HES.out.1, ← HLR.out, HC.out]) (by rw [HES.out.1, ← HLR.out]; exact hl) hE3).mono ?_
        intro e w4 hp
        have hst2 := hp.to (Nat.le_refl _) HB3.out
        rw [HES.out.1, ← HP2.out] at hst2
        have HF := Lib.hid (pa_of HNE.out (Nat.le_refl _) hst2)
        clear hst2
        rcases hp with ⟨_, ⟨s', _, rfl, _⟩ | ⟨c', _, rfl, _⟩⟩
        · go_wp2_with fail
          go_ret
          exact HF.out
        · go_wp2_with fail
          go_ret
          exact HF.out
      rw [if_neg h60] at HP2
      rw [decide_eq_false h60]
      have ht2 := tk1 38 c t
      go_wp2_with fail
      by_cases h38 : c = 38
      · rw [if_pos h38] at HP2 ht2
        have hvt : V8 t := by have hh := hv; rw [V8, v_cons (by rw [h38]; decide)] at hh; exact hh
        refine (take_yes R [38] ht2 w2 r1).mono ?_
        rintro e w3 ⟨rfl, m3, r3⟩
        have HM3 := Lib.hid (HM1.out.trans m3)
        have hE3 := hE1.out.mv hge m3
        simp only [List.length_cons] at hl htb
        clear m3 ht2
        go_wp2_with fail
        refine (reference_any R t (by omega) w3 r3 hE3).mono ?_
        rintro e w4 ⟨m4, ⟨n, r', hn, rfl, r4⟩ | ⟨hn, rfl, l', r4⟩⟩
        · rw [hn] at HP2
          have HP3 : Hid (partS s = goOn { s with rest := r' } (encS n)) := HP2
          have hvr := v_ref hn hvt
          have HM4 := Lib.hid (HM3.out.trans m4)
          have el := encS_len n
          clear hn HP2 m4
          go_wp2_with fail
          refine (uput_any (.slice none 0 0) [] w4.heap.size n hvr.2.2 w4 (Own8.nil _ _ _) (Nat.le_refl _) (by simp)).mono ?_
          rintro e w5 ⟨v5, rfl, ho5, hg5⟩
          rw [List.nil_append] at ho5
          have hb5 : Below w4.heap.size w4 w5 := below_of_grown hg5 (fun k hk => by simp [Value.ownBlock] at hk)
          obtain ⟨A5, c5, hv5, _, _, hbs5, _⟩ := ho5.form
          have hcv : (convert 37 9 (.slice A5 (encS n).length c5)).run Tryd.prog w5 = .ok (.string (strOf (encS n))) w5 := hbs5.conv (encS n).length c5 rfl
          subst hv5
          have r5 := r4.below hb5
          have HM5 := Lib.hid (HM4.out.trans (Mv.of r4.lt hb5))
          clear hb5 hg5 ho5
          go_wp2_with fail
          refine (goOn_any R { s with rest := r' } (encS n) (by show (encS n).length + s.text.length ≤ _; omega) w5 (HD.out.mv HM5.out r5)).mono ?_
          intro e w6 hp
          have hst := goOn_st (n := (c :: t).length) (HW.out.to (r := r') hvr.1 (by rw [← HLR.out, List.length_cons]; omega)) (by show r'.length < _; rw [List.length_cons]; omega) (by show (encS n).length + s.text.length + 4 * r'.length ≤ _; omega) hp
          have hst2 := hst.to (Nat.le_refl _) (HM5.out.below (Nat.le_refl _) hRs)
          rw [← HP3.out] at hst2
          have HF := Lib.hid (pa_of HNE.out (by rw [HLR.out]; exact Nat.le_refl _) hst2)
          clear hst hst2
          rcases hp with ⟨_, ⟨s', _, rfl, _⟩ | ⟨c', _, rfl⟩⟩
          · go_wp2_with fail
            go_ret
            exact HF.out
          · go_wp2_with fail
            go_ret
            exact HF.out
        · rw [hn] at HP2
          have HP3 : Hid (partS s = .error 11) := HP2
          have HM4 := Lib.hid (HM3.out.trans m4)
          clear hn HP2 m4
          go_wp2_with fail
          go_ret
          exact ⟨HM4.out.below (Nat.le_refl _) hRs, .inr ⟨11, parts_err HNE.out HP3.out, rfl, .inr (.inl rfl)⟩⟩
      rw [if_neg h38] at HP2 ht2
      refine (take_no R [38] ht2 w2 r1).mono ?_
      rintro e w3 ⟨rfl, m3, r3⟩
      have HM3 := Lib.hid (HM1.out.trans m3)
      have hE3 := Lib.hid (hE1.out.mv hge m3)
      have hc3 := r3.cell
      clear m3 ht2
      go_wp2_with fail
      refine (hp_any [93, 93, 62] (c :: t) w3).mono ?_
      rintro e w4 ⟨rfl, rfl⟩
      cases h93 : ([93, 93, 62] : L8).isPrefixOf (c :: t) with
      | true =>
        rw [if_pos h93] at HP2
        clear h93
        go_wp2_with fail
        go_ret
        exact ⟨HM3.out.below (Nat.le_refl _) hRs, .inr ⟨11, parts_err HNE.out HP2.out, rfl, .inr (.inl rfl)⟩⟩
      | false =>
        rw [if_neg (by rw [h93]; simp)] at HP2
        obtain ⟨r, rest, hs, he, hvr⟩ := valid_head _ (by simp) hv
        have hnx := nextN_enc r hs rest
        rw [← he] at hnx
        have el := encS_len r
        have hel := congrArg List.length he
        rw [List.length_append] at hel
        have hsg := sign_any R (c :: t) hl w4 r3 hE3.out
        rw [hnx] at hsg
        simp only at hsg
        rw [he, List.take_left, List.drop_left] at hsg
        have HSg := Lib.hid hsg
        have HC60 := Lib.hid h60
        have HC38 := Lib.hid h38
        have HHE := Lib.hid he
        have H93 := Lib.hid h93
        clear hnx hsg h93 h60 h38
        go_wp2_with fail
        refine HSg.out.mono ?_
        rintro e w5 ⟨rfl, m5, r5⟩
        have HM5 := Lib.hid (HM3.out.trans m5)
        clear m5
        have htx : (encS r).length + s.text.length ≤ 100000000 := by omega
        go_wp2_with fail
        refine (goOn_any R { s with rest := rest } (encS r) htx w5 (HD.out.mv HM5.out r5)).mono ?_
        intro e w6 hp
        have hst := goOn_st (n := (c :: t).length) (HW.out.to (r := rest) hvr (by rw [← HLR.out]; omega)) (by show rest.length < _; omega) (by show (encS r).length + s.text.length + 4 * rest.length ≤ _; omega) hp
        have hst2 := hst.to (Nat.le_refl _) (HM5.out.below (Nat.le_refl _) hRs)
        have hF : PaPost R s w e w6 := by
          by_cases hlow : r < 128
          · have hone : encS r = [c] ∧ rest = t := by
              have h1 := HHE.out
              rw [enc_low r hlow] at h1 ⊢
              injection h1 with h1 h2
              exact ⟨by rw [h1], h2.symm⟩
            rw [hone.1, hone.2, ← HP2.out] at hst2
            exact pa_of HNE.out (by rw [HLR.out]; exact Nat.le_refl _) hst2
          · have hhigh := enc_high r hs (by omega)
            have hsrest : s.rest = encS r ++ rest := by rw [← HLR.out, HHE.out]
            have hs' : { s with rest := encS r ++ rest, text := s.text } = s := by rw [← hsrest]
            by_cases h16 : s.nodes.length = 16384
            · obtain ⟨b1, h2⟩ := hst2
              have hgo : goOn { s with rest := rest } (encS r) = .error 3 := by
                unfold goOn
                rw [if_pos ⟨by intro e; rw [e] at el; simp at el, h16⟩]
              have hgo2 : partS s = .error 3 := by
                rw [HP2.out]
                unfold goOn
                rw [if_pos ⟨by simp, h16⟩]
              rcases h2 with ⟨s', a1, _⟩ | ⟨c', a1, a2, a3⟩
              · rw [hgo] at a1; cases a1
              · rw [hgo] at a1
                injection a1 with a1
                subst a1
                exact ⟨b1, .inr ⟨3, parts_err HNE.out hgo2, a2, a3⟩⟩
            · obtain ⟨b1, h2⟩ := hst2
              have hgo : goOn { s with rest := rest } (encS r) = .ok { s with rest := rest, text := s.text ++ encS r } := by
                unfold goOn
                rw [if_neg (fun h => h16 h.2)]
              rcases h2 with ⟨s', a1, a2, a3, a4, a5⟩ | ⟨c', a1, a2, a3⟩
              · rw [hgo] at a1
                injection a1 with a1
                subst a1
                refine ⟨b1, .inl ⟨_, fun f hf => ?_, a2, a3, a4, by show rest.length < _; rw [hsrest, List.length_append]; omega⟩⟩
                refine ⟨f - (encS r).length, by show rest.length < _; rw [hsrest, List.length_append] at hf; omega, ?_⟩
                have := parts_high s HNE.out h16 (encS r) rest s.text (f - (encS r).length) hhigh
                rw [hs', show (encS r).length + (f - (encS r).length) = f by rw [hsrest, List.length_append] at hf; omega] at this
                exact this
              · rw [hgo] at a1; cases a1
        have HF := Lib.hid hF
        clear hF hst hst2
        rcases hp with ⟨_, ⟨s', _, rfl, _⟩ | ⟨c', _, rfl⟩⟩
        · go_wp2_with fail
          go_ret
          exact HF.out
        · go_wp2_with fail
          go_ret
          exact HF.out
end Go.Proofs.YtbehfhdkdekjfaaDoor
