/- The reader's endText, beginning. -/
import Derived.Test.YtbehfhdkdekjfaaDoorXmLs
namespace Go.Proofs.YtbehfhdkdekjfaaDoor
open Go.RowKit
set_option maxRecDepth 100000

theorem own_cut {w : World} {base : Nat} {t : TypeId} {size : Nat} {A : Option Addr} {n c : Nat} {xs : List Value} (h : w.ownsRow base t size (.slice A n c) n xs) (k : Nat) (hk : k ≤ n) : w.ownsRow base t size (.slice A k c) k (xs.take (k * size)) := by
  have hle : k * size ≤ n * size := Nat.mul_le_mul_right _ hk
  refine ⟨by rw [List.length_take, h.1]; omega, ?_⟩
  rcases h.2 with ⟨h1, h2⟩ | ⟨g, cap, cur, hv, hg, hh, hnc, hm, hs, ht⟩
  · injection h1 with e1 e2 e3
    exact .inl ⟨by rw [e1, e3]; congr 1; omega, by omega⟩
  · injection hv with e1 e2 e3
    refine .inr ⟨g, cap, cur, by rw [e1, e3], hg, hh, by omega, hm, hs, ?_⟩
    rw [← ht, List.take_take]
    congr 1
    omega
/-- 's[:k]'. -/
theorem cut_to (t e : TypeId) (size : Nat) (hu : Tryd.prog.underlying t = some (.slice (Tryd.prog.elem t))) (he : Tryd.prog.elem t = e) (hz : ∀ W, (sizeOf e).run Tryd.prog W = .ok size W) (A : Option Addr) (n c k : Nat) (hk : k ≤ n) (hc : n ≤ c) (W : World) :
    (Instr.slice t (.slice A n c) none (some (.int .i64 (k : Int))) none).run Tryd.prog W = .ok (.slice A k c) W := by
  rw [run_slice_h W t A n c hu .i64 (k : Int) (by omega) (by omega), he, hz]
  cases A with
  | none => simp [Result.andThen, sliced]
  | some a => simp [Result.andThen, sliced, Addr.add]
theorem cut_bytes (A : Option Addr) (n c k : Nat) (hk : k ≤ n) (hc : n ≤ c) (W : World) : (Instr.slice 37 (.slice A n c) none (some (.int .i64 (k : Int))) none).run Tryd.prog W = .ok (.slice A k c) W :=
  cut_to 37 5 1 (by kernel_rfl) (by kernel_rfl) (fun W => by kernel_rfl) A n c k hk hc W
theorem cut_ints (A : Option Addr) (n c k : Nat) (hk : k ≤ n) (hc : n ≤ c) (W : World) : (Instr.slice 54 (.slice A n c) none (some (.int .i64 (k : Int))) none).run Tryd.prog W = .ok (.slice A k c) W :=
  cut_to 54 3 1 (by kernel_rfl) (by kernel_rfl) (fun W => by kernel_rfl) A n c k hk hc W
structure Wf (s : St) : Prop where
  v : V8 s.rest
  o : ∀ k ∈ s.opn, k < s.nodes.length
  on : s.opn.length ≤ 100
  nn : s.nodes.length ≤ 16384
  tb : s.text.length + 4 * s.rest.length ≤ 4000000
  tn : s.text ≠ [] → s.nodes.length < 16384
def StPost (R len : Nat) (r : Except Int St) (w : World) (e : Ending) (w' : World) : Prop :=
  Below R w w' ∧ ((∃ s', r = .ok s' ∧ e = .returned (.int .i64 0) ∧ Rd w' R s' ∧ Wf s' ∧ s'.rest.length < len) ∨ (∃ c, r = .error c ∧ e = .returned (.int .i64 c) ∧ (c = 3 ∨ c = 11 ∨ c = 12)))
theorem listS_rest (s : St) (a b : L8) (xs : List At) : (listS s a b xs).rest = s.rest ∧ (listS s a b xs).opn = s.opn ∧ (listS s a b xs).text = s.text ∧ (listS s a b xs).nodes.length = s.nodes.length + 1 := ⟨rfl, rfl, rfl, by simp [listS]⟩
theorem atRow_nil (w : World) (B : Nat) : AtRow w B (.slice none 0 0) [] := ⟨rfl, .inl ⟨rfl, rfl⟩⟩
theorem free_nil (vn vo vt : Value) : Free (.slice none 0 0) vn vo vt := fun b hb => by simp [Value.ownBlock] at hb
set_option maxHeartbeats 2000000 in
theorem endText_any (R : Nat) (s : St) (w : World) (h : Rd w R s) (hw : Wf s) :
    Calls Tryd.prog 59 #[.pointer (some ⟨R, 0, none⟩)] w fun e w' => (∃ v, e = .returned v) ∧ Below R w w' ∧ Rd w' R (endText s) := by
  obtain ⟨vn, vo, vt, avs, hV⟩ := h
  have HV := Lib.hid hV
  have HW := Lib.hid hw
  obtain ⟨A, c, hvt, hac, hcm, hbs, _⟩ := hV.rows.t.form
  have c3 := hV.cel.c3
  rw [hvt] at c3
  have HVT := Lib.hid hvt
  have HBS := Lib.hid hbs
  obtain ⟨n, hn⟩ : ∃ n, n = s.text.length := ⟨_, rfl⟩
  have HN := Lib.hid hn
  rw [← hn] at c3 hac
  unfold maxLen at hcm
  clear hV hvt hbs hn hw
  rcases Nat.eq_zero_or_pos n with h0 | h0
  · have HE : Hid (endText s = s) := by
      show _ = _
      unfold endText
      rw [if_pos (List.eq_nil_of_length_eq_zero (by rw [← HN.out]; exact h0))]
    subst h0
    go_enter Tryd.func59, Tryd.ntmps59
    go_wp2_with fail
    go_end0
    refine ⟨⟨_, rfl⟩, Below.refl _ _, ?_⟩
    rw [HE.out]
    exact ⟨vn, vo, vt, avs, HV.out⟩
  · have hne : s.text ≠ [] := by intro e; have := HN.out; rw [e] at this; simp at this; omega
    have HE : Hid (endText s = { listS s [] s.text [] with text := [] }) := by
      show _ = _
      unfold endText
      rw [if_neg hne]
    have hcv : (convert 37 9 (.slice A n c)).run Tryd.prog w = .ok (.string (strOf s.text)) w := HBS.out.conv n c HN.out
    have HLI := Lib.hid (list_any R s [] s.text none 0 0 [] w vn vo vt avs HV.out (atRow_nil w _) (free_nil _ _ _) HW.out.on HW.out.nn)
    clear hne
    go_enter Tryd.func59, Tryd.ntmps59
    go_wp2_with fail
    refine HLI.out.mono ?_
    rintro e w1 ⟨rfl, b1, vn', avs', hV1⟩
    have c3' := hV1.cel.c3
    rw [HVT.out, ← HN.out] at c3'
    have fr3 := hV1.cel.fr 3
    have hcut := cut_bytes A n c 0 (by omega) hac
    have HV1 := Lib.hid hV1
    clear hV1
    go_wp2_with fail
    go_end0
    refine ⟨⟨_, rfl⟩, b1.setCell (p := ⟨R, 3, none⟩) (Nat.le_refl _) _, ?_⟩
    rw [HE.out]
    have ht := HV1.out.rows.t
    rw [HVT.out] at ht
    have ho : Own8 w1 (R + 1) 5 (.slice A 0 c) [] := by have := own_cut ht 0 (by omega); rw [Nat.zero_mul, List.take_zero] at this; exact this
    refine ⟨vn', vo, .slice A 0 c, avs', HV1.out.rst.setR 3 (by omega) _, HV1.out.cel.set3 _, (HV1.out.rows.text (vt' := .slice A 0 c) (World.grownBy.refl _ _) ho (.inl ?_)).set 3 _⟩
    rw [HVT.out]
    cases A <;> rfl
theorem wpList_appendO {ops : Array Oper} {rest : List Oper} {o : Oper} {a : Act} {Q : Exit → Act → World → Prop} (wr : World) (hgd : o.guard = none) (s x : Operand)
    (ho : o.op = .call { callee := .builtin .append, args := #[s, x], argTypes := #[54, 54] })
    (base : Nat) (v : Value) (os : List Nat) (y : Nat) (hs : a.eval s = v) (hx : a.eval x = .slice (some ⟨wr.heap.size, 0, none⟩) 1 1) (hown : wr.ownsRow base 3 1 v os.length (opCells os)) (hbase : base ≤ wr.heap.size) (hn : os.length ≤ 1000000)
    (h : ∀ v' w', w'.ownsRow base 3 1 v' (os ++ [y]).length (opCells (os ++ [y])) → (wr.alloc (.cells #[.int .i64 (y : Int)] 3)).grownBy w' v.ownBlock → (v'.ownBlock = v.ownBlock ∨ v'.ownBlock = some (wr.heap.size + 1)) → wpList Tryd.prog ops Q rest (a.put o.dst v') w') :
    wpList Tryd.prog ops Q (o :: rest) a (wr.alloc (.cells #[.int .i64 (y : Int)] 3)) := by
  have info_int : (Tryd.prog.info? 3).map (fun i => (i.zero, i.size, i.bytes)) = some (some (.int .i64 0), 1, 8) := by kernel_rfl
  obtain ⟨i0, hi, hz0, hz1, hz2⟩ := info_parts info_int
  have hownA : (wr.alloc (.cells #[.int .i64 (y : Int)] 3)).ownsRow base 3 1 v os.length (opCells os) := own_below hown ((Below.refl _ _).alloc (Nat.le_refl _) _)
  refine wpList_append_own_at _ hgd s x 54 ho base 3 i0 _ 1 8 Tryd.underlying54 hi hz0 hz1 hz2 rfl (by omega) v os.length (opCells os) hs hownA ⟨wr.heap.size, 0, none⟩ 1 1 [.int .i64 (y : Int)] hx rfl (new_cells wr #[.int .i64 (y : Int)] 3 (0, 0)) (fun u hu => by have e := List.mem_singleton.1 hu; subst e; rfl) (by unfold maxLen; omega) (by omega) (by simp; omega) ?_
  intro v' w' h2 h3 h4 h5
  refine h v' w' ?_ h3 ?_
  · rw [List.length_append]
    have : opCells (os ++ [y]) = opCells os ++ [.int .i64 (y : Int)] := by simp [opCells]
    rw [this]
    exact h2
  · simpa using h5
theorem free_of {w w' : World} {R : Nat} {s : St} {vn vo vt : Value} {avs : List Value} (hV : RdV w R s vn vo vt avs) {v : Value} {xs : List At} (h : AtRow w' w.heap.size v xs) : Free v vn vo vt := fun b hb => by
  have h1 := (own_lt h b hb).1
  exact ⟨fun e => by have := (own_lt hV.rows.n b e).2; omega, fun e => by have := (own_lt hV.rows.o b e).2; omega, fun e => by have := (own_lt hV.rows.t b e).2; omega⟩
set_option maxHeartbeats 4000000 in
theorem beginning_any (R : Nat) (s : St) (w : World) (h : Rd w R s) (hw : Wf s) (htx : s.text = []) (hl : s.rest.length ≤ 1000000) (hE : Env w) :
    Calls Tryd.prog 38 #[.pointer (some ⟨R, 0, none⟩)] w (StPost R s.rest.length (beginS s) w) := by
  obtain ⟨vn, vo, vt, avs, hV⟩ := h
  have HV := Lib.hid hV
  have HW := Lib.hid hw
  have HTX := Lib.hid htx
  have HE := Lib.hid hE
  have HG : Hid (beginS s = if (nameL s.rest).1 = [] then .error 11
    else match attrsL ((nameL s.rest).2.length + 1) (nameL s.rest).2 [] with
      | none => .error 11
      | some (ats, r) =>
        if s.opn.length = 100 then .error 12
        else if s.nodes.length = 16384 then .error 3
        else match tk [47, 62] r with
          | some r' => .ok { listS s (nameL s.rest).1 [] ats with rest := r' }
          | none => match tk [62] r with
            | some r' => .ok { listS s (nameL s.rest).1 [] ats with rest := r', opn := s.opn ++ [s.nodes.length] }
            | none => .error 11) := rfl
  have HN := Lib.hid (name_any R s.rest hl hw.v w hV.rst hE)
  have hvn := v_name hw.v
  have hln := name_len s.rest
  have hRge : 8 ≤ R := hV.rst.ge
  clear hE hw htx
  generalize nameL s.rest = x at *
  obtain ⟨n, t⟩ := x
  simp only at HN HG hvn hln
  have hlt : t.length ≤ 1000000 := by omega
  obtain ⟨An, cn, hvn', hacn, hcmn, _, _⟩ := own_form hV.rows.n
  obtain ⟨Ao, co, hvo', haco, hcmo, _, _⟩ := own_form hV.rows.o
  have HVN := Lib.hid hvn'
  have HVO := Lib.hid hvo'
  unfold maxLen at hcmn hcmo
  have hlow : R ≤ w.heap.size := Nat.le_of_lt hV.rst.lt
  clear hV hvn' hvo'
  go_enter Tryd.func38, Tryd.ntmps38
  go_wp2_with fail
  refine HN.out.mono ?_
  rintro e w1 ⟨rfl, m1, r1⟩
  have HM1 := Lib.hid m1
  have HE1 := Lib.hid (HE.out.mv hRge m1)
  clear m1
  by_cases hn : n = []
  · rw [if_pos hn] at HG
    have hem : (strOf n).toList.isEmpty = true := by rw [str_empty, hn]; rfl
    clear hn
    go_wp2_with fail
    go_ret
    exact ⟨HM1.out.below (Nat.le_refl _) hlow, .inr ⟨11, HG.out, rfl, .inr (.inl rfl)⟩⟩
  rw [if_neg hn] at HG
  have hnl : 0 < n.length := List.length_pos_iff.2 hn
  have hem : (strOf n).toList.isEmpty = false := by rw [str_empty]; simpa using hn
  clear hn
  go_wp2_with fail
  refine (attrs_any R t hlt hvn.2 w1 r1 HE1.out).mono ?_
  rintro e w2 ⟨m2, ⟨ats, r, v, ho, rfl, r2, hv2, hl2, hrow⟩ | ⟨ho, rfl, l', r2⟩⟩
  · rw [ho] at HG
    have HG2 : Hid (beginS s = if s.opn.length = 100 then .error 12
        else if s.nodes.length = 16384 then .error 3
        else match tk [47, 62] r with
          | some r' => .ok { listS s n [] ats with rest := r' }
          | none => match tk [62] r with
            | some r' => .ok { listS s n [] ats with rest := r', opn := s.opn ++ [s.nodes.length] }
            | none => .error 11) := HG
    clear HG ho
    have hV2 := (HV.out.mv HM1.out r1).mv m2 r2
    have HV2 := Lib.hid hV2
    have HFR := Lib.hid (free_of (HV.out.mv HM1.out r1) hrow)
    have HROW : Hid (AtRow w2 (R + 1) v ats) := own_le hrow r1.lt
    obtain ⟨A, ac, hvv, _, _, _, _⟩ := own_form hrow
    have HB2 := Lib.hid ((HM1.out.trans m2).below (B := R) (Nat.le_refl _) hlow)
    have HE2 := Lib.hid (HE1.out.mv hRge m2)
    have c1 := hV2.cel.c1
    have c2 := hV2.cel.c2
    rw [HVN.out] at c1
    rw [HVO.out] at c2
    subst hvv
    clear hrow hV2 m2 HM1
    obtain ⟨nn, hnn⟩ : ∃ nn, nn = s.nodes.length := ⟨_, rfl⟩
    obtain ⟨no, hno⟩ : ∃ no, no = s.opn.length := ⟨_, rfl⟩
    have HNN := Lib.hid hnn
    have HNO := Lib.hid hno
    rw [← hnn] at c1 hacn
    rw [← hno] at c2 haco
    rw [← hnn, ← hno] at HG2
    clear hnn hno
    by_cases h100 : no = 100
    · rw [if_pos h100] at HG2
      have hb : ((no : Int) == 100) = true := beq_iff_eq.2 (by omega)
      clear h100
      go_wp2_with fail
      go_ret
      exact ⟨HB2.out, .inr ⟨12, HG2.out, rfl, .inr (.inr rfl)⟩⟩
    rw [if_neg h100] at HG2
    have hb : ((no : Int) == 100) = false := beq_eq_false_iff_ne.2 (by omega)
    have hno100 : no < 100 := by have := HW.out.on; rw [← HNO.out] at this; omega
    clear h100
    by_cases h16 : nn = 16384
    · rw [if_pos h16] at HG2
      have hb2 : ((nn : Int) == 16384) = true := beq_iff_eq.2 (by omega)
      clear h16
      go_wp2_with fail
      go_ret
      exact ⟨HB2.out, .inr ⟨3, HG2.out, rfl, .inl rfl⟩⟩
    rw [if_neg h16] at HG2
    have hb2 : ((nn : Int) == 16384) = false := beq_eq_false_iff_ne.2 (by omega)
    have hnn16 : nn < 16384 := by have := HW.out.nn; rw [← HNN.out] at this; omega
    clear h16
    have HLI := Lib.hid (list_any R { s with rest := r } n [] A ats.length ac ats w2 vn vo vt avs HV2.out HROW.out HFR.out HW.out.on HW.out.nn)
    go_wp2_with fail
    refine HLI.out.mono ?_
    rintro e w3 ⟨rfl, b3, vn3, avs3, hV3⟩
    have HV3 := Lib.hid hV3
    have HB3 := Lib.hid (HB2.out.trans b3)
    have r3 : Rst w3 R r := hV3.rst
    clear hV3 HLI HV2 HROW HFR b3 c1 c2 HB2
    have HT4 : Hid (4 * s.rest.length ≤ 4000000) := by have := HW.out.tb; show _ ≤ _; omega
    have hwf : ∀ r', V8 r' → r'.length ≤ r.length → ∀ os, (∀ k ∈ os, k < s.nodes.length + 1) → os.length ≤ 100 → Wf { listS s n [] ats with rest := r', opn := os } := by
      intro r' hv' hl' os ho1 ho2
      have hls := listS_rest s n [] ats
      refine ⟨hv', by intro k hk; show k < (listS s n [] ats).nodes.length; rw [hls.2.2.2]; exact ho1 k hk, ho2, ?_, ?_, ?_⟩
      · show (listS s n [] ats).nodes.length ≤ _
        rw [hls.2.2.2, ← HNN.out]; omega
      · show (listS s n [] ats).text.length + 4 * r'.length ≤ _
        rw [hls.2.2.1, HTX.out]
        have := HT4.out
        simp only [List.length_nil]
        omega
      · intro hne
        exact absurd (by show (listS s n [] ats).text = []; rw [hls.2.2.1, HTX.out]) hne
    have HWF := Lib.hid hwf
    have hopn : ∀ k ∈ s.opn, k < s.nodes.length + 1 := fun k hk => Nat.lt_succ_of_lt (HW.out.o k hk)
    have HOPN := Lib.hid hopn
    clear hwf hopn
    go_wp2_with fail
    cases hk : tk [47, 62] r with
    | some r' =>
      rw [hk] at HG2
      have hkl := tk_len hk
      have hv' := v_tk hk (by decide) hv2
      refine (take_yes R [47, 62] hk w3 r3).mono ?_
      rintro e w4 ⟨rfl, m4, r4⟩
      have hrd : Rd w4 R { listS s n [] ats with rest := r' } := ⟨vn3, vo, vt, avs3, HV3.out.mv m4 r4⟩
      have HRD := Lib.hid hrd
      have HM4 := Lib.hid m4
      clear hrd m4 hk
      simp only [List.length_cons, List.length_nil] at hkl
      go_wp2_with fail
      go_ret
      have hsz : R ≤ w3.heap.size := Nat.le_of_lt r3.lt
      exact ⟨HB3.out.trans (HM4.out.below (Nat.le_refl _) hsz), .inl ⟨_, HG2.out, rfl, HRD.out, HWF.out r' hv' (by omega) s.opn HOPN.out HW.out.on, by show r'.length < _; omega⟩⟩
    | none =>
      rw [hk] at HG2
      refine (take_no R [47, 62] hk w3 r3).mono ?_
      rintro e w4 ⟨rfl, m4, r4⟩
      have HV4 := Lib.hid (HV3.out.mv m4 r4)
      have HB4 := Lib.hid (HB3.out.trans (m4.below (Nat.le_refl _) (Nat.le_of_lt r3.lt)))
      clear m4 hk HV3 HB3
      go_wp2_with fail
      cases hk2 : tk [62] r with
      | none =>
        rw [hk2] at HG2
        refine (take_no R [62] hk2 w4 r4).mono ?_
        rintro e w5 ⟨rfl, m5, r5⟩
        have HB5 := Lib.hid (HB4.out.trans (m5.below (Nat.le_refl _) (Nat.le_of_lt r4.lt)))
        clear m5 hk2
        go_wp2_with fail
        go_ret
        exact ⟨HB5.out, .inr ⟨11, HG2.out, rfl, .inr (.inl rfl)⟩⟩
      | some r' =>
        rw [hk2] at HG2
        have hkl := tk_len hk2
        have hv' := v_tk hk2 (by decide) hv2
        refine (take_yes R [62] hk2 w4 r4).mono ?_
        rintro e w5 ⟨rfl, m5, r5⟩
        have HV5 := Lib.hid (HV4.out.mv m5 r5)
        have HB5 := Lib.hid (HB4.out.trans (m5.below (Nat.le_refl _) (Nat.le_of_lt r4.lt)))
        have c2 := HV5.out.cel.c2
        rw [HVO.out, ← HNO.out] at c2
        have fr2 := HV5.out.cel.fr 2
        have HO5 := Lib.hid HV5.out.rows.o
        rw [HVO.out] at HO5
        have hR5 : R + 1 ≤ w5.heap.size := r5.lt
        have hltR : R < w5.heap.size := r5.lt
        simp only [List.length_cons, List.length_nil] at hkl
        clear m5 hk2 HV4 HB4
        have HFIN : Hid (∀ vo' w6, w6.ownsRow (R + 1) 3 1 vo' (s.opn ++ [s.nodes.length]).length (opCells (s.opn ++ [s.nodes.length])) → (w5.alloc (.cells #[.int .i64 (s.nodes.length : Int)] 3)).grownBy w6 (Value.slice Ao s.opn.length co).ownBlock → (vo'.ownBlock = (Value.slice Ao s.opn.length co).ownBlock ∨ vo'.ownBlock = some (w5.heap.size + 1)) →
            w6.cell? ⟨R, 2, none⟩ = some (.slice Ao s.opn.length co) ∧ w6.frozen? ⟨R, 2, none⟩ = false ∧ Below R w (w6.setCell ⟨R, 2, none⟩ vo') ∧ Rd (w6.setCell ⟨R, 2, none⟩ vo') R { listS s n [] ats with rest := r', opn := s.opn ++ [s.nodes.length] }) := by
          intro vo' w6 ho hg hat
          rw [← HVO.out] at hg hat ⊢
          have hbA : Below w5.heap.size w5 (w5.alloc (.cells #[.int .i64 (s.nodes.length : Int)] 3)) := (Below.refl _ _).alloc (Nat.le_refl _) _
          have hVA := HV5.out.below hbA
          have hne : vo.ownBlock ≠ some R := fun e => by have := (own_lt HV5.out.rows.o R e).1; omega
          have hkR := hg.block R hVA.rst.lt (fun e => hne e.symm)
          have hc := hVA.cel.of hkR
          refine ⟨hc.c2, hc.fr 2, ?_, vn3, vo', vt, avs3, (hVA.rst.grown hg hne).setR 2 (by omega) _, hc.set2 _, (hVA.rows.opens hg ho ?_).set 2 _⟩
          · have hb6 : Below R w5 w6 := (hbA.mono (by omega)).trans ((Below.refl R _).grown hg (by simp; omega) fun k hk => by have := (own_lt HV5.out.rows.o k hk).1; omega)
            exact (HB5.out.trans hb6).setCell (p := ⟨R, 2, none⟩) (Nat.le_refl _) _
          · rcases hat with e | e
            · exact .inl e
            · exact .inr (by rw [e]; simp)
        go_wp2_with (
          (at_builtin
           rw [HNN.out, HNO.out]
           refine wpList_appendO w5 rfl (.tmp 48) (.tmp 50) rfl (R + 1) (.slice Ao s.opn.length co) s.opn s.nodes.length rfl rfl HO5.out hR5 (by have := HW.out.on; omega) ?_
           intro vo' w6 ho hg hat
           obtain ⟨A6, c6, hv6, _⟩ := own_form ho
           subst hv6
           obtain ⟨k1, k2, k3, k4⟩ := HFIN.out _ w6 ho hg hat
           rw [show (s.opn ++ [s.nodes.length]).length = s.opn.length + 1 by simp] at k3 k4
           have K3 := Lib.hid k3
           have K4 := Lib.hid k4
           clear k3 k4 ho hg hat))
        go_ret
        refine ⟨K3.out, .inl ⟨_, HG2.out.trans (by rw [HNN.out]), rfl, K4.out, HWF.out r' hv' (by omega) (s.opn ++ [s.nodes.length]) ?_ ?_, by show r'.length < _; omega⟩⟩
        · intro k hk
          rcases List.mem_append.1 hk with hk | hk
          · exact HOPN.out k hk
          · rw [List.mem_singleton.1 hk]; omega
        · rw [List.length_append, ← HNO.out]; simp only [List.length_cons, List.length_nil]; omega
  · rw [ho] at HG
    clear ho
    have HB2 := Lib.hid ((HM1.out.trans m2).below (B := R) (Nat.le_refl _) hlow)
    go_wp2_with fail
    go_ret
    exact ⟨HB2.out, .inr ⟨11, HG.out, rfl, .inr (.inl rfl)⟩⟩
end Go.Proofs.YtbehfhdkdekjfaaDoor
