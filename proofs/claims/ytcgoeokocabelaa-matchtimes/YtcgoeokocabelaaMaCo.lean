/- chosen: one match of all that are chosen. -/
import Derived.Test.YtcgoeokocabelaaMaNx
import Derived.Test.YtcgoeokocabelaaMaTu
namespace Go.Proofs.Ytcgoeokocabelaa
open Go.RowKit
set_option maxRecDepth 100000

/-- A match in a box, whose slices are rows of the call's own. -/
structure CP (w wr : World) (L : Nat) (t0 t1 : Value) (n0 n1 : Nat) (m : Mt) : Prop where
  c0 : wr.cell? ⟨L, 0, none⟩ = some t0
  c1 : wr.cell? ⟨L, 1, none⟩ = some t1
  f0 : wr.frozen? ⟨L, 0, none⟩ = false
  f1 : wr.frozen? ⟨L, 1, none⟩ = false
  o0 : wr.ownsRow w.heap.size 38 4 t0 n0 (spCs m.1)
  o1 : wr.ownsRow w.heap.size 38 4 t1 n1 (spCs m.2)
  ne : ∀ g, t0.ownBlock = some g → t1.ownBlock ≠ some g
  l0 : t0.ownBlock ≠ some L
  l1 : t1.ownBlock ≠ some L
  kb : Below w.heap.size w wr
  hL : w.heap.size ≤ L
theorem CP.lt {w wr : World} {L : Nat} {t0 t1 : Value} {n0 n1 : Nat} {m : Mt} (h : CP w wr L t0 t1 n0 n1 m) : L < wr.heap.size := World.block_lt_of_cell? wr _ h.c0
theorem CP.step0 {w wr w' : World} {L : Nat} {t0 t1 : Value} {n0 n1 k : Nat} {m : Mt} {x : List Sp} (h : CP w wr L t0 t1 n0 n1 m) (p : TP wr w' L 0 w.heap.size t0 k (m.1 ++ x)) : ∃ t, w'.cell? ⟨L, 0, none⟩ = some t ∧ CP w w' L t t1 k n1 (m.1 ++ x, m.2) := by
  obtain ⟨t, e1, e2, e3, e4⟩ := p.ex
  obtain ⟨_, _, _, _, _, _, b1⟩ := own_form h.o1
  refine ⟨t, e1, e1, (p.ce 1 (by decide)).trans h.c1, (p.fr 0).trans h.f0, (p.fr 1).trans h.f1, e2, own_at h.o1 fun g hg _ => p.hp g (b1 g hg).2 (fun e => h.l1 (by rw [hg, e])) (fun e => h.ne g e.symm hg), fun g hg e => ?_, e4, h.l1, h.kb.trans (p.bl), h.hL⟩
  rcases e3 with e3 | ⟨b, e3, hb⟩
  · exact h.ne g (by rw [← e3]; exact hg) e
  · rw [e3] at hg
    injection hg with hg
    have := (b1 g e).2
    omega
theorem CP.step1 {w wr w' : World} {L : Nat} {t0 t1 : Value} {n0 n1 k : Nat} {m : Mt} {x : List Sp} (h : CP w wr L t0 t1 n0 n1 m) (p : TP wr w' L 1 w.heap.size t1 k (m.2 ++ x)) : ∃ t, w'.cell? ⟨L, 1, none⟩ = some t ∧ CP w w' L t0 t n0 k (m.1, m.2 ++ x) := by
  obtain ⟨t, e1, e2, e3, e4⟩ := p.ex
  obtain ⟨_, _, _, _, _, _, b0⟩ := own_form h.o0
  refine ⟨t, e1, (p.ce 0 (by decide)).trans h.c0, e1, (p.fr 0).trans h.f0, (p.fr 1).trans h.f1, own_at h.o0 fun g hg _ => p.hp g (b0 g hg).2 (fun e => h.l0 (by rw [hg, e])) (fun e => h.ne g hg e.symm), e2, fun g hg e => ?_, h.l0, e4, h.kb.trans (p.bl), h.hL⟩
  rcases e3 with e3 | ⟨b, e3, hb⟩
  · exact h.ne g hg (by rw [← e3]; exact e)
  · rw [e3] at e
    injection e with e
    have := (b0 g hg).2
    omega
def Ch1 (a : List Mt) (M : Nat) : Prop := ∀ m ∈ a, m.1.length ≤ M ∧ m.2.length ≤ M
theorem joinI_at (a : List Mt) (s : Mt) (i : Nat) (h : i < a.length) : joinI a s i = (s.1 ++ a[i].1, s.2 ++ a[i].2) := by
  unfold joinI
  rw [List.getD_eq_getElem?_getD, List.getElem?_eq_getElem h]
  rfl
set_option maxHeartbeats 8000000 in
theorem chosen_any (A : Option Addr) (n cA b N cap : Nat) (a : List Mt) (c : List Nat) (HN : Hid (n = a.length ∧ N = c.length)) (hN : N ≤ 100) (HM : Hid (∀ m ∈ a, m.1.length ≤ 100 ∧ m.2.length ≤ 100)) (HV : Hid (∀ x ∈ c, x < n)) (w : World) (hA : MS w w.heap.size A a) (hC : CH w b c) :
    Calls Try.prog 109 #[.slice A n cA, .slice (some ⟨b, 0, none⟩) N cap] w fun e w' => ∃ z0 z1, e = .returned (.agg #[z0, z1]) ∧ SV w' w'.heap.size z0 (chM a c).1 ∧ SV w' w'.heap.size z1 (chM a c).2 ∧ Below w.heap.size w w' ∧ Fr w.heap.size z0 ∧ Fr w.heap.size z1 := by
  obtain ⟨X, hX⟩ : ∃ X, w.alloc (.cells #[.slice none 0 0, .slice none 0 0] 34) = X := ⟨_, rfl⟩
  obtain ⟨W0, hW0⟩ : ∃ W0, X.alloc (.cells #[.slice none 0 0, .slice none 0 0] 34) = W0 := ⟨_, rfl⟩
  have bX : Below w.heap.size w X := by rw [← hX]; exact (Below.refl _ _).alloc (Nat.le_refl _) _
  have sX : X.heap.size = w.heap.size + 1 := by rw [← hX]; simp
  have bW : Below X.heap.size X W0 := by rw [← hW0]; exact (Below.refl _ _).alloc (Nat.le_refl _) _
  obtain ⟨x0, x1⟩ := box2 w (.slice none 0 0) (.slice none 0 0) 34
  rw [hX] at x0 x1
  obtain ⟨r0, r1⟩ := box2 X (.slice none 0 0) (.slice none 0 0) 34
  rw [hW0] at r0 r1
  have hD : Hid (∃ D, D = w.heap.size + 1 ∧ W0.cell? ⟨D, 0, none⟩ = some (.slice none 0 0) ∧ W0.cell? ⟨D, 1, none⟩ = some (.slice none 0 0) ∧ ∀ j, W0.frozen? ⟨D, j, none⟩ = false) := ⟨_, rfl, by rw [← sX]; exact r0, by rw [← sX]; exact r1, fun j => by rw [← hW0, ← sX]; simp⟩
  obtain ⟨D, hDe, q0, q1, q2⟩ := hD.out
  have bw := bX.trans (bW.mono (by omega))
  have HP0 : Hid (CP X W0 D (.slice none 0 0) (.slice none 0 0) 0 0 (chM a (c.take 0))) :=
    ⟨q0, q1, q2 0, q2 1, World.ownsRow_nil _ _ _ _, World.ownsRow_nil _ _ _ _, fun g e => by simp [Value.ownBlock] at e, by simp [Value.ownBlock], by simp [Value.ownBlock], bW, by omega⟩
  have HXW : Hid ((w.alloc (.cells #[.slice none 0 0, .slice none 0 0] 34)).alloc (.cells #[.slice none 0 0, .slice none 0 0] 34) = W0) := by show _ = _; rw [hX, hW0]
  have HA := Lib.hid (hA.up bX)
  have HC := Lib.hid (hC.below bX)
  have HR := Lib.hid (And.intro x0 x1)
  have HRF : Hid (∀ j, X.frozen? ⟨w.heap.size, j, none⟩ = false) := fun j => by rw [← hX]; simp
  have HBX := Lib.hid bX
  have hsX : w.heap.size < X.heap.size := by omega
  have HDe := Lib.hid hDe
  have hbl := HC.out.lt
  clear hX hW0 bX sX bW x0 x1 r0 r1 hD q0 q1 q2 bw hA hC
  go_enter Try.func109, Try.ntmps109
  go_wp2_with fail
  rw [HXW.out, ← HDe.out]
  clear hDe
  go_loopw [10] (fun i wr => ∃ (k m0 m1 : Nat) (t0 t1 : Value), k ≤ N ∧ i = .int .i64 k ∧ m0 ≤ 100 * k ∧ m1 ≤ 100 * k ∧ Hid (CP X wr D t0 t1 m0 m1 (chM a (c.take k)))) (fun i _ => N - (intOf i).toNat)
  case atStart => exact ⟨0, 0, 0, _, _, Nat.zero_le _, rfl, Nat.le_refl _, Nat.le_refl _, HP0⟩
  case round =>
    obtain ⟨k, m0, m1, t0, t1, hk, rfl, hm0, hm1, HP⟩ := hrel
    by_cases hlt : k < N
    · have hkc : k < c.length := by rw [← HN.out.2]; exact hlt
      have HLT := Lib.hid hlt
      have e7 := (HC.out.same (HP.out.kb.block b hbl)).cell k hkc
      have hin : c[k] < n := HV.out _ (List.getElem_mem hkc)
      have HCH : Hid (chM a (c.take (k + 1)) = joinI a (chM a (c.take k)) c[k]) := by show _ = _; rw [List.take_succ_eq_append_getElem hkc, chM_snoc]
      obtain ⟨i, hi⟩ : ∃ i, i = c[k] := ⟨_, rfl⟩
      rw [← hi] at e7 hin HCH
      have hia : i < a.length := by rw [← HN.out.1]; exact hin
      rw [joinI_at _ _ _ hia] at HCH
      obtain ⟨g, o, z0, z1, rfl, hgw, y0, y1, s0, s1⟩ := HA.out.at_ i hia
      obtain ⟨S0, d0, rfl, _⟩ := id s0
      obtain ⟨S1, d1, rfl, _⟩ := id s1
      obtain ⟨hb0, hb1⟩ := HM.out _ (List.getElem_mem hia)
      obtain ⟨y, hy⟩ : ∃ y, y = a[i] := ⟨_, rfl⟩
      rw [← hy] at y0 y1 s0 s1 hb0 hb1 HCH
      obtain ⟨l0, hl0⟩ : ∃ l, l = y.1.length := ⟨_, rfl⟩
      obtain ⟨l1, hl1⟩ : ∃ l, l = y.2.length := ⟨_, rfl⟩
      rw [← hl0] at y0 s0 hb0
      rw [← hl1] at y1 s1 hb1
      have HEA : Hid (∀ W, Below X.heap.size X W → W.cell? ⟨g, o + i * 2, none⟩ = some (.slice S0 l0 d0) ∧ W.cell? ⟨g, o + i * 2 + 1, none⟩ = some (.slice S1 l1 d1)) := fun W hW => ⟨(hW.cell hgw).trans y0, (hW.cell hgw).trans y1⟩
      have HCS0 := Lib.hid s0.cs.2
      have HCS1 := Lib.hid s1.cs.2
      have HL0 := Lib.hid hl0
      have HL1 := Lib.hid hl1
      have hinI : (i : Int) < (n : Int) := by omega
      have wk : IntKind.i64.wrap ((k : Int) + 1) = (k : Int) + 1 := by rw [IntKind.wrap_i64]; omega
      obtain ⟨M, hMe⟩ : ∃ M, M = chM a (c.take k) := ⟨_, rfl⟩
      rw [← hMe] at HP HCH
      clear hi hy hl0 hl1 y0 y1 s0 s1 hgw hMe
      obtain ⟨q0, q1, f0, f1, o0, o1, _, h0, h1, _, _⟩ := id HP.out
      have ea := HEA.out _ HP.out.kb
      have hoD := Lib.hid (own_below o0 (Below.refl _ wr).drew)
      have hne := Lib.hid h0
      have hcD := Lib.hid (HCS0.out.below (HP.out.kb.drew))
      have HTB0 : Hid (∀ b, t0.ownBlock = some b → X.heap.size ≤ b) := fun b hb => by obtain ⟨_, _, _, _, _, _, h⟩ := own_form o0; exact (h b hb).1
      have hLW0 : D < wr.heap.size := World.block_lt_of_cell? wr _ q0
      have hbw0 : X.heap.size ≤ wr.drew.heap.size := by have := HP.out.kb.size; simpa using this
      obtain ⟨ea0, ea1⟩ := ea
      have HQ := Lib.hid (And.intro q0 f0)
      clear o0 o1 h0 h1
      go_wp2_with fail
      go_region_law ((refine step_appR elSp wr.drew (by rfl) _ _ (by rfl) X.heap.size t0 m0 (spCs M.1) (by rfl) hoD.out S0 l0 d0 X.heap.size (spCs y.1) (by rfl) (by rw [spCs_len, HL0.out]) (spCs_one _) hcD.out (m0 + l0) (by rfl) (by omega) hbw0 ?_; intro v4 w4 hown4 hgrow hv4; obtain ⟨A4, c4, rfl, _⟩ := own_form hown4; have k4 := (hgrow.cell_far ⟨D, 0, none⟩ (by simp; omega) (fun e => hne.out e.symm)).trans HQ.out.1; have f4 := (hgrow.frozen_far ⟨D, 0, none⟩ (by simp; omega) (fun e => hne.out e.symm)).trans HQ.out.2))
      all_goals
        have HTP := Lib.hid (TP.of ((Below.refl _ wr).drew) hgrow (by rw [spCs_app]; exact hown4) hv4 hne.out hLW0 k4 HP.out.kb.size HP.out.hL HTB0.out)
        clear hown4 hgrow hv4 k4 f4 q0 q1 f0 f1
        obtain ⟨t2, _, HP1⟩ := HP.out.step0 HTP.out
        obtain ⟨Y, hY⟩ : ∃ Y, w4.setCell ⟨D, 0, none⟩ (.slice A4 (m0 + l0) c4) = Y := ⟨_, rfl⟩
        rw [hY] at HP1 ⊢
        obtain ⟨k0, hk0⟩ : ∃ k0, m0 + l0 = k0 := ⟨_, rfl⟩
        rw [hk0] at HP1 ⊢
        have hk0l : k0 ≤ 100 * (k + 1) := by omega
        have HP2 := Lib.hid HP1
        clear HP1 HTP hY hk0 ea0 ea1 HQ hcD hoD hne HTB0 hLW0 hbw0
        obtain ⟨q0, q1, f0, f1, o0, o1, _, h0, h1, _, _⟩ := id HP2.out
        have ea := HEA.out _ HP2.out.kb
        have hoD := Lib.hid (own_below o1 (Below.refl _ Y).drew)
        have hne := Lib.hid h1
        have hcD := Lib.hid (HCS1.out.below (HP2.out.kb.drew))
        have HTB1 : Hid (∀ b, t1.ownBlock = some b → X.heap.size ≤ b) := fun b hb => by obtain ⟨_, _, _, _, _, _, h⟩ := own_form o1; exact (h b hb).1
        have hLW1 : D < Y.heap.size := World.block_lt_of_cell? Y _ q0
        have hbw1 : X.heap.size ≤ Y.drew.heap.size := by have := HP2.out.kb.size; simpa using this
        obtain ⟨ea0, ea1⟩ := ea
        have HQ := Lib.hid (And.intro q1 f1)
        clear o0 o1 h0 h1
        go_wp2_with fail
        go_region_law ((refine step_appR elSp Y.drew (by rfl) _ _ (by rfl) X.heap.size t1 m1 (spCs (M.1 ++ y.1, M.2).2) (by rfl) hoD.out S1 l1 d1 X.heap.size (spCs y.2) (by rfl) (by rw [spCs_len, HL1.out]) (spCs_one _) hcD.out (m1 + l1) (by rfl) (by omega) hbw1 ?_; intro v4 w4 hown4 hgrow hv4; obtain ⟨A4, c4, rfl, _⟩ := own_form hown4; have k4 := (hgrow.cell_far ⟨D, 1, none⟩ (by simp; omega) (fun e => hne.out e.symm)).trans HQ.out.1; have f4 := (hgrow.frozen_far ⟨D, 1, none⟩ (by simp; omega) (fun e => hne.out e.symm)).trans HQ.out.2))
        all_goals
          have HTP := Lib.hid (TP.of ((Below.refl _ Y).drew) hgrow (by rw [spCs_app]; exact hown4) hv4 hne.out hLW1 k4 HP2.out.kb.size HP2.out.hL HTB1.out)
          clear hown4 hgrow hv4 k4 f4 q0 q1 f0 f1
          obtain ⟨t3, _, HP3⟩ := HP2.out.step1 HTP.out
          rw [← HCH.out] at HP3
          have HP4 := Lib.hid HP3
          clear HP3 HTP ea0 ea1
          go_wp2_with fail
          exact ⟨⟨k + 1, k0, m1 + l1, t2, t3, HLT.out, by go_num, hk0l, by omega, HP4.out⟩, by have := HLT.out; simp [intOf]; omega⟩
    · obtain rfl : k = N := by omega
      have HF : Hid (CP X wr D t0 t1 m0 m1 (chM a c)) := by have h := HP.out; rw [List.take_of_length_le (by rw [HN.out.2]; exact Nat.le_refl _)] at h; exact h
      clear HP
      obtain ⟨T0, e0, rfl, _⟩ := own_form HF.out.o0
      obtain ⟨T1, e1, rfl, _⟩ := own_form HF.out.o1
      obtain ⟨q0, q1, _, _, o0, o1, _, _, _, hkb, _⟩ := id HF.out
      have s0 := SV.own o0 (by have := o0.1; rw [spCs_len] at this; omega)
      have s1 := SV.own o1 (by have := o1.1; rw [spCs_len] at this; omega)
      have g0 : Fr X.heap.size (.slice T0 m0 e0) := Fr.own o0
      have g1 : Fr X.heap.size (.slice T1 m1 e1) := Fr.own o1
      have r0 := (hkb.cell (p := ⟨w.heap.size, 0, none⟩) hsX).trans HR.out.1
      have r1 := (hkb.cell (p := ⟨w.heap.size, 1, none⟩) hsX).trans HR.out.2
      have f0 := (hkb.frozen (p := ⟨w.heap.size, 0, none⟩) hsX).trans (HRF.out 0)
      have f1 := (hkb.frozen (p := ⟨w.heap.size, 1, none⟩) hsX).trans (HRF.out 1)
      obtain ⟨p0, p1, hbs, hg, hsz⟩ := stored2 (w := wr) (b := w.heap.size) (u0 := .slice T0 m0 e0) (u1 := .slice T1 m1 e1) r0 r1
      have hsv : ∀ v l, SV wr wr.heap.size v l → Fr X.heap.size v → SV _ _ v l := fun v l h hf => h.away (w' := (wr.setCell ⟨w.heap.size, 0, none⟩ (.slice T0 m0 e0)).setCell ⟨w.heap.size, 1, none⟩ (.slice T1 m1 e1)) (B' := ((wr.setCell ⟨w.heap.size, 0, none⟩ (.slice T0 m0 e0)).setCell ⟨w.heap.size, 1, none⟩ (.slice T1 m1 e1)).heap.size) hf (fun g h1 _ => hg g (by omega)) (by rw [hsz]; exact Nat.le_refl _)
      have HFIN := Lib.hid (And.intro (hsv _ _ s0 g0) (And.intro (hsv _ _ s1 g1) (And.intro ((HBX.out.trans (hkb.mono HBX.out.size)).trans (hbs _ (Nat.le_refl _))) (And.intro (g0.le HBX.out.size) (g1.le HBX.out.size)))))
      clear s0 s1 g0 g1 hkb hbs hg hsz hsv o0 o1
      go_wp2_with fail
      refine bodyPost_ret (v := .agg #[.slice T0 m0 e0, .slice T1 m1 e1]) ?_ rfl ⟨_, _, rfl, HFIN.out⟩
      simp [results, Try.results109, go_sem, p0, p1]
end Go.Proofs.Ytcgoeokocabelaa
