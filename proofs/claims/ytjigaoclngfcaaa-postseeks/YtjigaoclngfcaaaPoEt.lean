/- (*Cursor).enter. -/
import Derived.Test.YtjigaoclngfcaaaPoLm
import Derived.Deep.LoopGhost
import Derived.Laws.IdiomStrings
namespace Go.Proofs.Ytjigaoclngfcaaa
open Go.RowKit
set_option maxRecDepth 100000

theorem conv_str (t : List UInt8) (Z : World) : ∃ cap Z', (convert 9 25 (.string ⟨t.toArray⟩)).run Try.prog Z = .ok (.slice (some ⟨Z.heap.size, 0, none⟩) t.length cap) Z' ∧ BS Z' Z'.heap.size (some ⟨Z.heap.size, 0, none⟩) t ∧ Below Z.heap.size Z Z' ∧ Z.heap.size < Z'.heap.size := by
  have hsz : (⟨t.toArray⟩ : ByteArray).size = t.length := by show t.toArray.size = _; simp
  have h := run_bytes_of_string (P := Try.prog) Z 9 25 5 ⟨t.toArray⟩ Try.underlying9 Try.underlying25 Try.underlying5
  rw [hsz] at h
  have hs : Z.heap.size < ((Z.drew.alloc (.cells (bytesRow ⟨t.toArray⟩ (grownCap Z t.length 0 5)) 5 ((bytesRow ⟨t.toArray⟩ (grownCap Z t.length 0 5)).size, (bytesRow ⟨t.toArray⟩ (grownCap Z t.length 0 5)).size + 1)))).heap.size := by
    rw [World.size_alloc]; show _ < Z.heap.size + 1; omega
  refine ⟨_, _, h, fun _ => ⟨Z.heap.size, 0, rfl, hs, fun j hj => ?_⟩, ((Below.refl _ _).drew).alloc (Nat.le_refl _) _, hs⟩
  rw [Nat.zero_add]
  have e := World.cell?_alloc_mark Z.drew (bytesRow ⟨t.toArray⟩ (grownCap Z t.length 0 5)) 5 ((bytesRow ⟨t.toArray⟩ (grownCap Z t.length 0 5)).size, (bytesRow ⟨t.toArray⟩ (grownCap Z t.length 0 5)).size + 1) j
  rw [bytesRow_at _ _ j (by show j < t.toArray.size; simpa using hj)] at e
  rw [at8_eq t j hj]
  have e2 : (⟨t.toArray⟩ : ByteArray).data[j]'(by show j < t.toArray.size; simpa using hj) = t[j] := by simp
  rw [e2] at e
  exact e
theorem num1k_none (R o : Nat) (P : Nat → Prop) (l : List UInt8) (w : World) (h : RdO w R o P l 0) (hn : l.length ≤ 1000000) (HG : Hid (rdN l 1000 = none)) :
    Calls Try.prog 45 #[.pointer (some ⟨R, o, none⟩), .int .i64 1000] w fun e w' => e = .returned (.int .i64 0) ∧ MvO w w' R o P l 2 := num_none_o R o P l 1000 w h hn HG (by decide)
theorem num1k_some (R o : Nat) (P : Nat → Prop) (l : List UInt8) (N : Nat) (r : List UInt8) (w : World) (h : RdO w R o P l 0) (hn : l.length ≤ 1000000) (HG : Hid (rdN l 1000 = some (N, r))) :
    Calls Try.prog 45 #[.pointer (some ⟨R, o, none⟩), .int .i64 1000] w fun e w' => e = .returned (.int .i64 N) ∧ MvO w w' R o P r 0 := num_some_o R o P l 1000 N r w h hn HG (by decide)
/-- What a cursor is while enter is under way. -/
structure EN (G : Nat → Prop) (C : Nat) (st : PS) (d : Int) (P1 : Nat → Prop) (l1 : List UInt8) (e1 : Int) (P2 : Nat → Prop) (l2 : List UInt8) (e2 : Int) (wr : World) : Prop where
  cm : CM wr C st.sk st.bh st.la st.he d P1 l1 e1 P2 l2 e2
  er : e1 = 0 ∨ e1 = 2
  bb : st.bb = if e1 = 0 then some l1 else none
  z1 : l1.length ≤ 10000
  z2 : l2.length ≤ 10000
  he : st.he = 0
  b1 : st.bh ≤ 1000
  b3 : st.la + 1000 * st.bh ≤ 2001000
  b5 : st.sk + st.bh ≤ 2000
  b6 : st.bb.isSome = true → st.la + 1000 * st.bh ≤ 2000000
  g1 : ∀ b, G b → ¬ P1 b
  g2 : ∀ b, G b → ¬ P2 b
theorem EN.cur {G : Nat → Prop} {C : Nat} {st : PS} {d : Int} {P1 : Nat → Prop} {l1 : List UInt8} {e1 : Int} {P2 : Nat → Prop} {l2 : List UInt8} {e2 : Int} {wr : World} (h : EN G C st d P1 l1 e1 P2 l2 e2 wr) : Cur G wr C st :=
  CM.cur h.cm h.er h.bb h.z1 (fun k => by have := h.he; omega) h.z2 (fun k => by have := h.he; omega) h.b1 (by have := h.he; omega) h.b3 (fun k => by have := h.he; omega) h.b5 h.b6 h.g1 h.g2
theorem Cur.en {G : Nat → Prop} {w : World} {C : Nat} {st : PS} (h : Cur G w C st) (he : st.he = 0) : ∃ d P1 l1 e1 P2 l2 e2, EN G C st d P1 l1 e1 P2 l2 e2 w := by
  obtain ⟨d, P1, l1, e1, P2, l2, e2, hc, k1, k2, k3, k4, k5, k6, k7, k8⟩ := h.cm
  exact ⟨d, P1, l1, e1, P2, l2, e2, hc, k1, k2, k3, k5, he, h.b1, h.b3, h.b5, h.b6, k7, k8⟩
theorem CM.rd {w : World} {C : Nat} {sk bh la he dc : Int} {P1 : Nat → Prop} {l1 : List UInt8} {e1 : Int} {P2 : Nat → Prop} {l2 : List UInt8} {e2 : Int} {P : Nat → Prop} {A : Option Addr} {c : Nat} {t : List UInt8} (h : CM w C sk bh la he dc P1 l1 e1 P2 l2 e2) (hP : ∀ b, P b → b ≠ C ∧ b < w.heap.size) (hc : t.length ≤ c) (hb : BN w P A t) :
    CM ((w.setCell ⟨C, 5, none⟩ (.slice A t.length c)).setCell ⟨C, 6, none⟩ (.int .i64 0)) C sk bh la he dc P1 l1 e1 P t 0 := by
  obtain ⟨_, A2, c2, x5, x6, _, _, _, _⟩ := h.r5
  refine ⟨((so (by decide)).trans (so (by decide))).trans h.c0, (h.r1.set (by decide) (by decide) _).set (by decide) (by decide) _, ((so (by decide)).trans (so (by decide))).trans h.c3, ((so (by decide)).trans (so (by decide))).trans h.c4, ?_, ((so (by decide)).trans (so (by decide))).trans h.c7, ((so (by decide)).trans (so (by decide))).trans h.c8, fun k => by simpa using h.fr k⟩
  refine ⟨fun b hb' => ⟨(hP b hb').1, by simpa [World.setCell] using (hP b hb').2⟩, A, c, ?_, ?_, by simpa using h.fr 5, by simpa using h.fr 6, hc, ?_⟩
  · rw [so (by decide)]
    exact World.cell?_setCell_same _ _ _ (by rw [x5])
  · exact World.cell?_setCell_same _ _ _ (by rw [so (by decide)]; rw [x6])
  · exact hb.keep fun p hp => by
      have hne := (hP _ hp).1
      rw [World.cell?_setCell_other _ _ _ _ (by intro e; subst e; exact hne rfl), World.cell?_setCell_other _ _ _ _ (by intro e; subst e; exact hne rfl)]
set_option maxHeartbeats 4000000 in
theorem enter_any (G : Nat → Prop) (C : Nat) (st : PS) (w : World) (doc : Int) (h : Cur G w C st) (hhe : st.he = 0) (hG : ∀ b, G b → b < w.heap.size) :
    Calls Try.prog 46 #[.pointer (some ⟨C, 0, none⟩), .int .i64 doc] w fun e w' => e = .returned (.bool (enterP doc st.bh st).1) ∧ Cur G w' C (enterP doc st.bh st).2 ∧ KX C w w' := by
  have HC := Lib.hid h
  have HHE := Lib.hid hhe
  have HG := Lib.hid hG
  clear h hhe hG
  go_enter Try.func46, Try.ntmps46
  go_wp2_with fail
  go_loopg [5] st.bh (fun kx s5 wr => ∃ (f : Nat) (s : PS), s.bh ≤ kx ∧ s.bh ≤ f ∧ Hid (enterP doc st.bh st = enterP doc f s) ∧ Hid (Cur G wr C s) ∧ Hid (s.he = 0) ∧ Hid (KX C w wr))
  case atStart => exact ⟨st.bh, st, Nat.le_refl _, Nat.le_refl _, rfl, HC, HHE, KX.refl _ _⟩
  case round =>
    obtain ⟨f, s, hkx, hf, HE, HCr, HHr, HK⟩ := hrel
    obtain ⟨d, P1, l1, e1, P2, l2, e2, hen⟩ := HCr.out.en HHr.out
    have HEN := Lib.hid hen
    obtain ⟨bh, hbh⟩ : ∃ bh, bh = s.bh := ⟨_, rfl⟩
    have c3 := hen.cm.c3
    have hb1 := hen.b1
    have hb3 := hen.b3
    have hb5 := hen.b5
    rw [← hbh] at c3 hb1 hb3 hb5 hkx hf
    have HBH := Lib.hid hbh
    clear hen hbh
    rcases Nat.eq_zero_or_pos bh with h0 | h0
    · subst h0
      have hF : Hid (enterP doc st.bh st = (false, s)) := by show _ = _; rw [HE.out]; exact enterP_zero doc f s HBH.out.symm
      go_wp2_with fail
      go_ret
      exact ⟨by rw [hF.out]; rfl, by rw [hF.out]; exact HCr.out, HK.out⟩
    · have h0I : (0 : Int) < (bh : Int) := by omega
      obtain ⟨f', rfl⟩ : ∃ f', f = f' + 1 := ⟨f - 1, by omega⟩
      obtain ⟨sz, hsz⟩ : ∃ sz, sz = min 4 bh := ⟨_, rfl⟩
      have hmin : (if (bh : Int) < 4 then (bh : Int) else 4) = (sz : Int) := by split <;> omega
      have hsz1 : 1 ≤ sz := by omega
      have hszb : sz ≤ bh := by omega
      have hsz4 : sz ≤ 4 := by omega
      have HSZ := Lib.hid hsz
      have c4 := HEN.out.cm.c4
      have HD : Hid (∀ W, Below wr.heap.size wr W → EN G C s d P1 l1 e1 P2 l2 e2 W) := fun W hb => by
        have e := HEN.out
        exact ⟨e.cm.below hb, e.er, e.bb, e.z1, e.z2, e.he, e.b1, e.b3, e.b5, e.b6, e.g1, e.g2⟩
      have bdd : Below wr.heap.size wr wr.drew.drew := (Below.refl _ _).drew.drew
      have HED := Lib.hid (HD.out _ bdd)
      have KD : Hid (KX C wr wr.drew.drew) := KX.of_below bdd (Nat.le_refl _)
      have hbne : s.bh ≠ 0 := by have := HBH.out; omega
      have HBN := Lib.hid hbne
      clear bdd hsz hbne
      rcases HEN.out.er with he1 | he1
      · subst he1
        have hbb : s.bb = some l1 := HEN.out.bb
        have HBB := Lib.hid hbb
        have hz1 := HEN.out.z1
        have hb6 : s.la + 1000 * bh ≤ 2000000 := by have := HEN.out.b6 (by rw [hbb]; rfl); rw [← HBH.out] at this; exact this
        clear hbb
        cases hN : rdN l1 1000 with
        | none =>
          have HN := Lib.hid hN
          have hF : Hid (enterP doc st.bh st = (false, { s with bb := none })) := by show _ = _; rw [HE.out]; exact enterP_e1 doc f' s l1 HBN.out HBB.out hN
          have q4 : IntKind.i64.wrap ((s.la : Nat) : Int) = ((s.la : Nat) : Int) := by rw [IntKind.wrap_i64]; omega
          clear hN
          go_wp2_with fail
          go_region
          go_wp2_with fail
          go_region_with (first | (go_at_call 45; (with_reducible refine (num1k_none C 1 P1 l1 _ HED.out.cm.r1 (by omega) HN).mono ?_); rintro e w2 ⟨rfl, m2⟩; have hC2 := HED.out.cm.mv1 m2; have z4 := hC2.c4; have f4 := hC2.fr 4))
          all_goals
            have hC3 := hC2.set4 ((s.la : Nat) : Int)
            have hK3 := KD.out.trans (m2.kx.trans (KX.set (o := 4) (.int .i64 ((s.la : Nat) : Int))))
            obtain ⟨W3, hW3⟩ : ∃ W3, w2.setCell ⟨C, 4, none⟩ (.int .i64 ((s.la : Nat) : Int)) = W3 := ⟨_, rfl⟩
            rw [hW3] at hC3 hK3
            have b3 : Below W3.heap.size W3 W3.drew := (Below.refl _ _).drew
            have HC3 := Lib.hid (hC3.below b3)
            have HK3 := Lib.hid (hK3.trans (KX.of_below b3 (Nat.le_refl _)))
            clear hC2 hC3 hK3 m2 z4 f4 b3
            go_wp2_with fail
            go_region_with (first
              | (go_at_call 37; (with_reducible refine (left_o C 1 P1 l1 2 _ HC3.out.r1).mono ?_); rintro e w4 ⟨rfl, rfl⟩)
              | (go_at_call 56; (with_reducible refine (rtext_err_o C 1 P1 l1 _ _ HC3.out.r1).mono ?_); rintro e w4 ⟨rfl, rfl⟩))
            all_goals
              go_wp2_with fail
              (with_reducible refine (err_o C 1 P1 l1 2 _ HC3.out.r1).mono ?_)
              rintro e w5 ⟨rfl, rfl⟩
              go_wp2_with fail
              go_ret
              refine ⟨by rw [hF.out]; rfl, ?_, HK.out.trans HK3.out⟩
              rw [hF.out]
              have e := HEN.out
              exact (EN.cur (st := { s with bb := none }) (e1 := 2) ⟨HC3.out, .inr rfl, rfl, e.z1, e.z2, e.he, e.b1, e.b3, e.b5, (fun k => by cases k), e.g1, e.g2⟩)
        | some pr =>
          obtain ⟨x, k1⟩ := pr
          have HN := Lib.hid hN
          have hxb := (rdN_some hN).2.1
          have hkl := rdN_len hN
          obtain ⟨la2, hla2⟩ : ∃ la2, la2 = s.la + x := ⟨_, rfl⟩
          have q4 : ((s.la : Nat) : Int) + (x : Int) = (la2 : Int) := by omega
          have q4' : IntKind.i64.wrap (la2 : Int) = (la2 : Int) := by rw [IntKind.wrap_i64]; omega
          have hlb : la2 + 1000 * bh ≤ 2001000 := by omega
          have HLA := Lib.hid hla2
          clear hN hla2
          go_wp2_with fail
          go_region
          go_wp2_with fail
          go_region_with (first | (go_at_call 45; (with_reducible refine (num1k_some C 1 P1 l1 x k1 _ HED.out.cm.r1 (by omega) HN).mono ?_); rintro e w2 ⟨rfl, m2⟩; have hC2 := HED.out.cm.mv1 m2; have z4 := hC2.c4; have f4 := hC2.fr 4))
          all_goals
            have hC3 := hC2.set4 (la2 : Int)
            have hK3 := KD.out.trans (m2.kx.trans (KX.set (o := 4) (.int .i64 (la2 : Int))))
            obtain ⟨W3, hW3⟩ : ∃ W3, w2.setCell ⟨C, 4, none⟩ (.int .i64 (la2 : Int)) = W3 := ⟨_, rfl⟩
            rw [hW3] at hC3 hK3
            have b3 : Below W3.heap.size W3 W3.drew := (Below.refl _ _).drew
            have HC3 := Lib.hid (hC3.below b3)
            have HK3 := Lib.hid (hK3.trans (KX.of_below b3 (Nat.le_refl _)))
            clear hC2 hC3 hK3 m2 z4 f4 b3
            cases hT : rdT k1 with
            | none =>
              have HT := Lib.hid hT
              have hF : Hid (enterP doc st.bh st = (false, { s with bb := none, la := s.la + x })) := by show _ = _; rw [HE.out]; exact enterP_e2 doc f' s l1 k1 x HBN.out HBB.out HN.out hT
              clear hT
              go_wp2_with fail
              go_region_with (first
                | (go_at_call 37; (with_reducible refine (left_o C 1 P1 k1 0 _ HC3.out.r1).mono ?_); rintro e w4 ⟨rfl, rfl⟩)
                | (go_at_call 56; (with_reducible refine (text_none_o C 1 P1 k1 _ HC3.out.r1 (by omega) HT).mono ?_); rintro e w5 ⟨rfl, r5, hr5, m5⟩; have HC5 := Lib.hid (HC3.out.mv1 m5); have HK5 := Lib.hid (HK3.out.trans m5.kx)))
              all_goals
                clear m5
                go_wp2_with fail
                (with_reducible refine (err_o C 1 P1 r5 2 _ HC5.out.r1).mono ?_)
                rintro e w6 ⟨rfl, rfl⟩
                go_wp2_with fail
                go_ret
                refine ⟨by rw [hF.out]; rfl, ?_, HK.out.trans HK5.out⟩
                rw [hF.out, ← HLA.out]
                have e := HEN.out
                have e2 := HBH.out
                exact (EN.cur (st := { s with bb := none, la := la2 }) (e1 := 2) ⟨HC5.out, .inr rfl, rfl, by omega, e.z2, e.he, e.b1, by simp only; omega, e.b5, (fun k => by cases k), e.g1, e.g2⟩)
            | some pt =>
              obtain ⟨t, k2⟩ := pt
              have HT := Lib.hid hT
              have htl := rdT_len hT
              have hFE : Hid (enterP doc st.bh st = if doc ≤ ((s.la + x : Nat) : Int) then (true, { s with bb := some k2, bh := s.bh - min 4 s.bh, la := s.la + x, kb := t, he := min 4 s.bh, dc := s.la }) else enterP doc f' { s with bb := some k2, bh := s.bh - min 4 s.bh, la := s.la + x, sk := s.sk + 1 }) := by
                show _ = _
                rw [HE.out]
                exact enterP_at doc f' s l1 k1 t k2 x HBN.out HBB.out HN.out hT
              rw [← HLA.out, ← HBH.out, ← HSZ.out] at hFE
              obtain ⟨sb, hsb⟩ : ∃ sb, sb = (⟨t.toArray⟩ : ByteArray) := ⟨_, rfl⟩
              have KT : Hid (∀ W, RdO W C 1 P1 k1 0 → Calls Try.prog 56 #[.pointer (some ⟨C, 1, none⟩), .int .i64 (k1.length : Nat)] W fun e w' => e = .returned (.string sb) ∧ MvO W w' C 1 P1 k2 0) := fun W h => by rw [hsb]; exact text_some_o C 1 P1 k1 t k2 W h (by omega) hT
              have HSB := Lib.hid hsb
              obtain ⟨bh2, hbh2⟩ : ∃ bh2, bh2 = bh - sz := ⟨_, rfl⟩
              have q3 : (bh : Int) - (sz : Int) = (bh2 : Int) := by omega
              have q3' : IntKind.i64.wrap (bh2 : Int) = (bh2 : Int) := by rw [IntKind.wrap_i64]; omega
              rw [← hbh2] at hFE
              have hb2a : bh2 + sz ≤ bh := by omega
              have hb2b : bh ≤ bh2 + sz := by omega
              clear hT hsb hbh2
              go_wp2_with fail
              go_region_with (first
                | (go_at_call 37; (with_reducible refine (left_o C 1 P1 k1 0 _ HC3.out.r1).mono ?_); rintro e w4 ⟨rfl, rfl⟩)
                | (go_at_call 56; (with_reducible refine (KT.out _ HC3.out.r1).mono ?_); rintro e w5 ⟨rfl, m5⟩; have HC5 := Lib.hid (HC3.out.mv1 m5); have HK5 := Lib.hid (HK3.out.trans m5.kx)))
              all_goals
                clear m5
                have u3 := HC5.out.c3
                have g3 := HC5.out.fr 3
                rw [← HBH.out] at u3
                have hC6 := HC5.out.set3 (bh2 : Int)
                obtain ⟨W6, hW6⟩ : ∃ W6, w5.setCell ⟨C, 3, none⟩ (.int .i64 (bh2 : Int)) = W6 := ⟨_, rfl⟩
                have hK6 := HK5.out.trans (KX.set (w := w5) (C := C) (o := 3) (.int .i64 (bh2 : Int)))
                rw [hW6] at hC6 hK6
                have HC6 := Lib.hid hC6
                have HK6 := Lib.hid hK6
                have u4 := hC6.c4
                clear hC6 hK6
                by_cases hdoc : doc ≤ (la2 : Int)
                · rw [if_pos hdoc] at hFE
                  obtain ⟨cap, Z', hcv, hbs, hbz, hsz2⟩ := conv_str t W6
                  rw [← HSB.out] at hcv
                  have HBS := Lib.hid hbs
                  have HBZ := Lib.hid hbz
                  clear hbs hbz
                  go_wp2_with fail
                  (with_reducible refine (err_o C 1 P1 k2 0 _ HC5.out.r1).mono ?_)
                  rintro e w6 ⟨rfl, rfl⟩
                  go_wp2_with fail
                  (with_reducible refine (read_o _ t.length cap t _ rfl (by omega) HBS.out).mono ?_)
                  rintro e w7 ⟨R7, rfl, hrd7, b7, hR1, hR2⟩
                  have hbe : Below W6.heap.size W6 w7 := HBZ.out.trans (b7.mono HBZ.out.size)
                  have hC7 := HC6.out.below hbe
                  obtain ⟨hP7, A7, c7, x0, x1, y0, y1, hcc7, hbn7⟩ := hrd7
                  obtain ⟨_, A8, c8, r5, r6, g5, g6, _, _⟩ := hC7.r5
                  have HC8 := Lib.hid (((hC7.rd (fun b hb => ⟨by have := HC6.out.lt; have := HBZ.out.size; omega, (hP7 b hb).2⟩) hcc7 hbn7).set7 (sz : Int)).set8 ((s.la : Nat) : Int))
                  have HK8 := Lib.hid (HK6.out.trans ((KX.of_below hbe (Nat.le_refl _)).trans (((KX.set (w := w7) (C := C) (o := 5) (.slice A7 t.length c7)).trans (KX.set (o := 6) (.int .i64 0))).trans ((KX.set (o := 7) (.int .i64 (sz : Int))).trans (KX.set (o := 8) (.int .i64 ((s.la : Nat) : Int)))))))
                  have r7 := hC7.c7
                  have r8 := hC7.c8
                  have g7 := hC7.fr 7
                  have g8 := hC7.fr 8
                  clear hC7 hbe b7 hbn7
                  go_wp2_with fail
                  go_ret
                  refine ⟨by rw [hFE.out]; rfl, ?_, HK.out.trans HK8.out⟩
                  rw [hFE.out]
                  have e := HEN.out
                  have e2 := HBH.out
                  have e3 := HLA.out
                  exact CM.cur (st := { s with bb := some k2, bh := bh2, la := la2, kb := t, he := sz, dc := s.la }) HC8.out (.inl rfl) rfl (by omega) (fun _ => ⟨rfl, rfl⟩) (by omega) (fun _ => rfl) (by simp only; omega) hsz4 (by simp only; omega) (fun _ => by simp only; omega) (by simp only; omega) (fun _ => by simp only; omega) e.g1 (fun b hb hp => by have := HG.out b hb; have := HK.out.size; have := HK6.out.size; have := HBZ.out.size; have := hp.1; omega)
                · rw [if_neg hdoc] at hFE
                  have u0 := HC6.out.c0
                  have g0 := HC6.out.fr 0
                  have q0 : IntKind.i64.wrap (((s.sk : Nat) : Int) + 1) = ((s.sk + 1 : Nat) : Int) := by rw [IntKind.wrap_i64]; omega
                  have hC8 := HC6.out.set0 ((s.sk + 1 : Nat) : Int)
                  have hK8 := HK6.out.trans (KX.set (w := W6) (C := C) (o := 0) (.int .i64 ((s.sk + 1 : Nat) : Int)))
                  have HX8 : Hid (Cur G (W6.setCell ⟨C, 0, none⟩ (.int .i64 ((s.sk + 1 : Nat) : Int))) C { s with bb := some k2, bh := bh2, la := la2, sk := s.sk + 1 }) := by
                    have e := HEN.out
                    have e2 := HBH.out
                    have e3 := HLA.out
                    exact (EN.cur (st := { s with bb := some k2, bh := bh2, la := la2, sk := s.sk + 1 }) (e1 := 0) ⟨hC8, .inl rfl, rfl, by omega, e.z2, e.he, by simp only; omega, by simp only; omega, by simp only; omega, fun _ => by simp only; omega, e.g1, e.g2⟩)
                  have HK8 := Lib.hid (HK.out.trans hK8)
                  have hdI : ¬ doc ≤ (la2 : Int) := hdoc
                  clear hC8 hK8 hdoc
                  go_wp2_with fail
                  (with_reducible refine (err_o C 1 P1 k2 0 _ HC5.out.r1).mono ?_)
                  rintro e w6 ⟨rfl, rfl⟩
                  go_wp2_with fail
                  go_roundg bh2
                  case measure => omega
                  case rel => exact ⟨f', _, Nat.le_refl _, by simp only; omega, hFE, HX8, HHr, HK8⟩
      · subst he1
        have hbb : s.bb = none := HEN.out.bb
        have hF : Hid (enterP doc st.bh st = (false, s)) := by show _ = _; rw [HE.out]; exact enterP_err doc f' s HBN.out hbb
        have q4 : IntKind.i64.wrap ((s.la : Nat) : Int) = ((s.la : Nat) : Int) := by rw [IntKind.wrap_i64]; omega
        clear hbb
        go_wp2_with fail
        go_region
        go_wp2_with fail
        go_region_with (first | (go_at_call 45; (with_reducible refine (num_err_o C 1 P1 l1 1000 _ HED.out.cm.r1).mono ?_); rintro e w2 ⟨rfl, rfl⟩; have z4 := HED.out.cm.c4; have f4 := HED.out.cm.fr 4))
        all_goals
          have hC3 := HEN.out.cm.set4 ((s.la : Nat) : Int)
          have hK3 := (KX.set (w := wr) (C := C) (o := 4) (.int .i64 ((s.la : Nat) : Int)))
          obtain ⟨W3, hW3⟩ : ∃ W3, wr.setCell ⟨C, 4, none⟩ (.int .i64 ((s.la : Nat) : Int)) = W3 := ⟨_, rfl⟩
          rw [hW3] at hC3 hK3
          have b3 : Below W3.heap.size W3 W3.drew.drew.drew := (Below.refl _ _).drew.drew.drew
          have HC3 := Lib.hid (hC3.below b3)
          have HK3 := Lib.hid (hK3.trans (KX.of_below b3 (Nat.le_refl _)))
          clear hC3 hK3 z4 f4 b3
          go_wp2_with fail
          go_region_with (first
            | (go_at_call 37; (with_reducible refine (left_o C 1 P1 l1 2 _ HC3.out.r1).mono ?_); rintro e w4 ⟨rfl, rfl⟩)
            | (go_at_call 56; (with_reducible refine (rtext_err_o C 1 P1 l1 _ _ HC3.out.r1).mono ?_); rintro e w4 ⟨rfl, rfl⟩))
          all_goals
            go_wp2_with fail
            (with_reducible refine (err_o C 1 P1 l1 2 _ HC3.out.r1).mono ?_)
            rintro e w5 ⟨rfl, rfl⟩
            go_wp2_with fail
            go_ret
            refine ⟨by rw [hF.out]; rfl, ?_, HK.out.trans HK3.out⟩
            rw [hF.out]
            have e := HEN.out
            exact EN.cur ⟨HC3.out, e.er, e.bb, e.z1, e.z2, e.he, e.b1, e.b3, e.b5, e.b6, e.g1, e.g2⟩
end Go.Proofs.Ytjigaoclngfcaaa
