/- The reader's value. -/
import Derived.Test.YtbehfhdkdekjfaaDoorXmRef
import Derived.Test.YtbehfhdkdekjfaaDoorAppStrN
import Derived.Test.YtbehfhdkdekjfaaDoorCs
namespace Go.Proofs.YtbehfhdkdekjfaaDoor
open Go.RowKit
set_option maxRecDepth 100000

theorem own_mv {w w' : World} {R base : Nat} {t : TypeId} {size : Nat} {v : Value} {n : Nat} {xs : List Value} (h : w.ownsRow base t size v n xs) (m : Mv w w' R) (hb : R < base) : w'.ownsRow base t size v n xs := by
  refine ⟨h.1, ?_⟩
  rcases h.2 with h | ⟨g, cap, cur, hv, hg, hh, r⟩
  · exact .inl h
  · exact .inr ⟨g, cap, cur, hv, hg, (m.block g (row_lt hh) (by omega)).trans hh, r⟩
theorem Mv.grown {w wr w' : World} {R : Nat} {row : Option Nat} (m : Mv w wr R) (hR : R < w.heap.size) (hg : wr.grownBy w' row) (hrow : ∀ k, row = some k → w.heap.size ≤ k) : Mv w w' R := by
  have hk : ∀ g, g < w.heap.size → w'.heap[g]? = wr.heap[g]? := fun g hlt => hg.block g (Nat.lt_of_lt_of_le hlt m.size) (fun e => by have := hrow g e.symm; omega)
  refine ⟨hg.os.trans m.os, hg.tape.trans m.tape, hg.output.trans m.output, Nat.le_trans m.size hg.size, fun g hlt hne => (hk g hlt).trans (m.block g hlt hne), fun o ho => ?_, fun o => ?_⟩
  · exact (World.cell?_of_block (w := wr) (a := ⟨R, o, none⟩) (hk R hR)).trans (m.cell o ho)
  · exact (World.frozen?_of_block (w := wr) (a := ⟨R, o, none⟩) (hk R hR)).trans (m.frz o)
theorem Rst.grown {w w' : World} {R : Nat} {l : L8} {row : Option Nat} (h : Rst w R l) (hg : w.grownBy w' row) (hrow : row ≠ some R) : Rst w' R l := by
  have hk := hg.block R h.lt (fun e => hrow e.symm)
  exact ⟨Nat.lt_of_lt_of_le h.lt hg.size, h.ge, (World.cell?_of_block (w := w) (a := ⟨R, 0, none⟩) hk).trans h.cell, (World.frozen?_of_block (w := w) (a := ⟨R, 0, none⟩) hk).trans h.frz⟩
theorem Own8.mv {w w' : World} {R base : Nat} {t : TypeId} {v : Value} {l : L8} (h : Own8 w base t v l) (m : Mv w w' R) (hb : R < base) : Own8 w' base t v l := own_mv h m hb
theorem Own8.ge {w : World} {base : Nat} {t : TypeId} {v : Value} {l : L8} (h : Own8 w base t v l) : ∀ k, v.ownBlock = some k → base ≤ k := fun k hk => by
  obtain ⟨_, _, _, _, _, _, hb⟩ := h.form
  exact (hb k hk).1
theorem tk1 (q c : UInt8) (u : L8) : tk [q] (c :: u) = if c = q then some u else none := by
  unfold tk
  by_cases h : c = q
  · subst h; simp [List.isPrefixOf]
  · have : (q == c) = false := by simpa using fun e => h e.symm
    rw [if_neg h]
    simp [List.isPrefixOf, this]
theorem tk1_nil (q : UInt8) : tk [q] [] = none := by simp [tk, List.isPrefixOf]
theorem hp_any (p l : L8) (w : World) : Calls Tryd.prog 58 #[.string (strOf l), .string (strOf p)] w fun e w' => e = .returned (.bool (p.isPrefixOf l)) ∧ w' = w := by
  have := Tryd.strings_HasPrefix (strOf l) (strOf p) w
  rw [str_data, str_data] at this
  exact this
theorem hp1 (q c : UInt8) (u : L8) : ([q] : L8).isPrefixOf (c :: u) = decide (c = q) := by
  by_cases h : c = q
  · subst h; simp [List.isPrefixOf]
  · have : (q == c) = false := by simpa using fun e => h e.symm
    simp [List.isPrefixOf, this, h]
theorem val_high (q : UInt8) (hq : q.toNat < 128) (f : Nat) : ∀ (u t acc : L8), (∀ c ∈ u, 128 ≤ c.toNat) → valL q (u.length + f) (u ++ t) acc = valL q f t (acc ++ u)
  | [], t, acc, _ => by simp
  | c :: u, t, acc, h => by
    have hc := h c (by simp)
    have h1 : c ≠ q := by rintro rfl; omega
    have h2 : c ≠ 60 := by rintro rfl; simp at hc
    have h3 : c ≠ 38 := by rintro rfl; simp at hc
    rw [show (c :: u).length + f = (u.length + f) + 1 by simp; omega, List.cons_append, valL, if_neg h1, if_neg h2, if_neg h3, val_high q hq f u t (acc ++ [c]) (fun x hx => h x (by simp [hx]))]
    simp
/-- A sign that is none of the three is read as its bytes. -/
theorem val_sign (q : UInt8) (hq : q.toNat < 128) (f r : Nat) (hs : isSign r) (t acc : L8) (c : UInt8) (u : L8) (he : encS r ++ t = c :: u) (h1 : c ≠ q) (h2 : c ≠ 60) (h3 : c ≠ 38) :
    valL q ((encS r).length + f) (encS r ++ t) acc = valL q f t (acc ++ encS r) := by
  by_cases h : r < 128
  · rw [enc_low r h] at he ⊢
    injection he with e1 e2
    rw [show ([UInt8.ofNat r] : L8).length + f = f + 1 by simp; omega, List.singleton_append, valL, e1, if_neg h1, if_neg h2, if_neg h3]
  · exact val_high q hq f _ t acc (enc_high r hs (by omega))
theorem v_number {base : Nat} {l r : L8} {n : Nat} (h : numberL base l = some (n, r)) (hl : V8 l) : V8 r ∧ r.length < l.length ∧ isSign n := by
  unfold numberL at h
  split at h
  · cases h
  · rename_i d r' hu
    split at h
    · cases h
    · split at h
      · rename_i n' hn ho
        injection h with h
        injection h with h1 h2
        subst h1; subst h2
        have h3 := up_len hu
        simp at h3
        refine ⟨(v_up hu (by decide) (by decide) hl).2, by omega, ?_⟩
        unfold okSign at ho
        simp only [Bool.or_eq_true, Bool.and_eq_true, decide_eq_true_eq, beq_iff_eq] at ho
        unfold isSign at *
        omega
      · cases h
theorem v_ref {l r : L8} {n : Nat} (h : refL l = some (n, r)) (hl : V8 l) : V8 r ∧ r.length < l.length ∧ isSign n := by
  have key : ∀ (p : L8) (m : Nat) (r' : L8), V8 p → 0 < p.length → isSign m → tk p l = some r' → some (m, r') = some (n, r) → V8 r ∧ r.length < l.length ∧ isSign n := by
    intro p m r' hp hpl hm hk e
    injection e with e
    injection e with e1 e2
    subst e1; subst e2
    have := tk_len hk
    exact ⟨v_tk hk hp hl, by omega, hm⟩
  have key2 : ∀ (p : L8) (base : Nat) (r' : L8), V8 p → tk p l = some r' → numberL base r' = some (n, r) → V8 r ∧ r.length < l.length ∧ isSign n := by
    intro p base r' hp hk e
    have h1 := v_number e (v_tk hk hp hl)
    have := tk_len hk
    exact ⟨h1.1, by omega, h1.2.2⟩
  unfold refL at h
  split at h
  · exact key [108, 116, 59] 60 _ (by decide) (by decide) (by decide) ‹_› h
  split at h
  · exact key [103, 116, 59] 62 _ (by decide) (by decide) (by decide) ‹_› h
  split at h
  · exact key [97, 109, 112, 59] 38 _ (by decide) (by decide) (by decide) ‹_› h
  split at h
  · exact key [97, 112, 111, 115, 59] 39 _ (by decide) (by decide) (by decide) ‹_› h
  split at h
  · exact key [113, 117, 111, 116, 59] 34 _ (by decide) (by decide) (by decide) ‹_› h
  split at h
  · exact key2 [35, 120] 16 _ (by decide) ‹_› h
  split at h
  · exact key2 [35] 10 _ (by decide) ‹_› h
  · cases h
def ValPost (R len : Nat) (o : Option (L8 × L8)) (w : World) (e : Ending) (w' : World) : Prop :=
  Mv w w' R ∧ ((∃ v r, o = some (v, r) ∧ e = .returned (.tuple #[.string (strOf v), .int .i64 0]) ∧ Rst w' R r ∧ V8 r ∧ r.length < len) ∨ (o = none ∧ e = .returned (.tuple #[.string ⟨#[]⟩, .int .i64 11]) ∧ ∃ l', Rst w' R l'))
set_option maxHeartbeats 4000000 in
theorem value_any (R : Nat) (q : UInt8) (hq : q = 34 ∨ q = 39) (l : L8) (hl : l.length ≤ 1000000) (hv : V8 l) (w : World) (h : Rst w R l) (hE : Env w) :
    Calls Tryd.prog 92 #[.pointer (some ⟨R, 0, none⟩), .string (strOf [q])] w (ValPost R l.length (valL q (l.length + 1) l []) w) := by
  have HE := Lib.hid hE
  have H := Lib.hid h
  have HV := Lib.hid hv
  have HQ : Hid (q.toNat < 128) := by rcases hq with rfl | rfl <;> (show _ < _; decide)
  clear h hE hv hq
  go_enter Tryd.func92, Tryd.ntmps92
  go_wp2_with fail
  go_loopg [6] l.length (fun gg sv wr => ∃ (v : Value) (t acc : L8) (f : Nat), v = sv ∧ t.length ≤ gg ∧ t.length < f ∧ t.length ≤ l.length ∧ acc.length ≤ 4 * (l.length - t.length) ∧ Hid (Rst wr R t) ∧ Hid (Mv w wr R) ∧ Hid (Own8 wr w.heap.size 5 v acc) ∧ Hid (V8 t) ∧ Hid (valL q f t acc = valL q (l.length + 1) l []))
  case atStart => exact ⟨_, l, [], l.length + 1, rfl, Nat.le_refl _, Nat.lt_succ_self _, Nat.le_refl _, by simp, H, Mv.refl _ _, Own8.nil _ _ _, HV, rfl⟩
  case round =>
    obtain ⟨v, t, acc, f, hsv, htg, htf, htl, hacc, HR, HM, HO, HVt, HB⟩ := hrel
    subst hsv
    have htl' : t.length ≤ 1000000 := by omega
    obtain ⟨f, rfl⟩ : ∃ f', f = f' + 1 := ⟨f - 1, by omega⟩
    have HRb : Hid (R < w.heap.size) := H.out.lt
    go_wp2_with fail
    cases t with
    | nil =>
      have HE1 : Hid (valL q (l.length + 1) l [] = none) := by show _ = _; rw [← HB.out]; rfl
      refine (take_no R [q] (tk1_nil q) wr HR.out).mono ?_
      rintro e w1 ⟨rfl, m1, r1⟩
      have hc1 := r1.cell
      have hem : (strOf ([] : L8)).toList.isEmpty = true := by rw [str_empty]; rfl
      go_wp2_with fail
      go_ret2
      exact ⟨HM.out.trans m1, .inr ⟨HE1.out, rfl, _, r1⟩⟩
    | cons c u =>
      have HB2 : Hid (valL q (l.length + 1) l [] = if c = q then some (acc, u)
        else if c = 60 then none
        else if c = 38 then (match refL u with | none => none | some (n, r) => valL q f r (acc ++ encS n))
        else valL q f u (acc ++ [c])) := by show _ = _; rw [← HB.out]; rfl
      have hem : (strOf (c :: u)).toList.isEmpty = false := by rw [str_empty]; rfl
      have ht1 := tk1 q c u
      by_cases hcq : c = q
      · rw [if_pos hcq] at HB2 ht1
        refine (take_yes R [q] ht1 wr HR.out).mono ?_
        rintro e w1 ⟨rfl, m1, r1⟩
        have ho1 := HO.out.mv m1 HRb.out
        obtain ⟨A, cp, hvv, hac, hcm, hbs, _⟩ := ho1.form
        have hcv := hbs.conv acc.length cp rfl
        subst hvv
        have HVu : Hid (V8 u) := by have hh := HVt.out; rw [V8, v_cons (by rw [hcq]; exact HQ.out)] at hh; exact hh
        clear hem ht1 hcq
        go_wp2_with fail
        go_ret2
        exact ⟨HM.out.trans m1, .inl ⟨acc, u, HB2.out, rfl, r1, HVu.out, by simp only [List.length_cons] at htl; omega⟩⟩
      rw [if_neg hcq] at HB2 ht1
      refine (take_no R [q] ht1 wr HR.out).mono ?_
      rintro e w1 ⟨rfl, m1, r1⟩
      have hc1 := r1.cell
      have HO1 := Lib.hid (HO.out.mv m1 HRb.out)
      have HM1 := Lib.hid (HM.out.trans m1)
      clear ht1 HO HM m1
      go_wp2_with fail
      refine (hp_any [60] (c :: u) w1).mono ?_
      rintro e w2 ⟨rfl, rfl⟩
      rw [hp1]
      by_cases hc60 : c = 60
      · rw [if_pos hc60] at HB2
        rw [decide_eq_true hc60]
        clear hc60 hcq
        go_wp2_with fail
        go_ret2
        exact ⟨HM1.out, .inr ⟨HB2.out, rfl, _, r1⟩⟩
      rw [if_neg hc60] at HB2
      rw [decide_eq_false hc60]
      have hE1 := Lib.hid (HE.out.mv H.out.ge HM1.out)
      have ht2 := tk1 38 c u
      go_wp2_with fail
      by_cases hc38 : c = 38
      · rw [if_pos hc38] at HB2 ht2
        refine (take_yes R [38] ht2 w2 r1).mono ?_
        rintro e w3 ⟨rfl, m3, r3⟩
        have HO3 := Lib.hid (HO1.out.mv m3 HRb.out)
        have HM3 := Lib.hid (HM1.out.trans m3)
        have hE3 := Lib.hid (hE1.out.mv H.out.ge m3)
        have HVu : Hid (V8 u) := by have hh := HVt.out; rw [V8, v_cons (by rw [hc38]; decide)] at hh; exact hh
        have hul : u.length ≤ 1000000 := by simp only [List.length_cons] at htl'; omega
        clear ht2 hem HVt HB
        go_wp2_with fail
        refine (reference_any R u hul w3 r3 hE3.out).mono ?_
        rintro e w4 ⟨m4, ⟨n, r', hn, rfl, r4⟩ | ⟨hn, rfl, l', r4⟩⟩
        · rw [hn] at HB2
          have hvr := v_ref hn HVu.out
          have HO4 := Lib.hid (HO3.out.mv m4 HRb.out)
          have HM4 := Lib.hid (HM3.out.trans m4)
          have el := encS_len n
          clear hn
          simp only [List.length_cons] at htg htf htl hacc
          go_wp2_with fail
          refine (uput_any v acc w.heap.size n hvr.2.2 w4 HO4.out HM4.out.size (by omega)).mono ?_
          rintro e w5 ⟨v5, rfl, ho5, hg5⟩
          have hge := HO4.out.ge
          go_wp2_with fail
          go_roundg r'.length
          case rel => exact ⟨v5, r', acc ++ encS n, f, rfl, Nat.le_refl _, by omega, by omega, by rw [List.length_append]; omega, r4.grown hg5 (fun e => by have := hge R e; have := HRb.out; omega), HM4.out.grown HRb.out hg5 hge, ho5, hvr.1, HB2.out.symm⟩
          case measure => omega
        · rw [hn] at HB2
          clear hn
          go_wp2_with fail
          go_ret2
          exact ⟨HM3.out.trans m4, .inr ⟨HB2.out, rfl, l', r4⟩⟩
      · rw [if_neg hc38] at ht2
        refine (take_no R [38] ht2 w2 r1).mono ?_
        rintro e w3 ⟨rfl, m3, r3⟩
        have HO3 := Lib.hid (HO1.out.mv m3 HRb.out)
        have HM3 := Lib.hid (HM1.out.trans m3)
        have hE3 := Lib.hid (hE1.out.mv H.out.ge m3)
        obtain ⟨r, rest, hs, he, hvr⟩ := valid_head _ (by simp) HVt.out
        have hnx := nextN_enc r hs rest
        rw [← he] at hnx
        have el := encS_len r
        have hel := congrArg List.length he
        rw [List.length_append] at hel
        obtain ⟨f', hf'⟩ : ∃ f', f + 1 = (encS r).length + f' := ⟨f + 1 - (encS r).length, by simp only [List.length_cons] at htf hel; omega⟩
        have HB3 : Hid (valL q f' rest (acc ++ encS r) = valL q (l.length + 1) l []) := by
          show _ = _
          rw [← HB.out, hf', he]
          exact (val_sign q HQ.out f' r hs rest acc c u he.symm hcq hc60 hc38).symm
        have hsg := sign_any R (c :: u) htl' w3 r3 hE3.out
        rw [hnx] at hsg
        simp only at hsg
        rw [he, List.take_left, List.drop_left] at hsg
        have HSg := Lib.hid hsg
        clear ht2 hem HB HB2 hnx hsg
        simp only [List.length_cons] at htg htf htl hacc hel
        go_wp2_with fail
        refine HSg.out.mono ?_
        rintro e w4 ⟨rfl, m4, r4⟩
        have HO4 := Lib.hid (HO3.out.mv m4 HRb.out)
        have HM4 := Lib.hid (HM3.out.trans m4)
        have hge := HO4.out.ge
        have hszr : (strOf (encS r)).size ≤ 4 := by rw [size8]; exact el.2
        go_wp2_with (
          (at_builtin
           refine wpList_append8t _ rfl (.tmp 13) (.tmp 15) rfl w.heap.size v acc rfl HO4.out (strOf (encS r)) rfl (by omega) HM4.out.size ?_
           intro v5 w5 ho5 hg5 hat5))
        rw [str_data] at ho5
        go_roundg rest.length
        case rel => exact ⟨v5, rest, acc ++ encS r, f', rfl, Nat.le_refl _, by omega, by omega, by rw [List.length_append]; omega, r4.grown hg5 (fun e => by have := hge R e; have := HRb.out; omega), HM4.out.grown HRb.out hg5 hge, ho5, hvr, HB3⟩
        case measure => omega
end Go.Proofs.YtbehfhdkdekjfaaDoor
