/- (*Cursor).look: its other ways. -/
import Derived.Test.YtjigaoclngfcaaaPoLk
import Derived.RangeFuncBox
namespace Go.Proofs.Ytjigaoclngfcaaa
open Go.RowKit
set_option maxRecDepth 100000

theorem CM.upto {w w' : World} {C B : Nat} {sk bh la he dc : Int} {P1 : Nat → Prop} {l1 : List UInt8} {e1 : Int} {P2 : Nat → Prop} {l2 : List UInt8} {e2 : Int} (h : CM w C sk bh la he dc P1 l1 e1 P2 l2 e2) (hC : C < B) (h1 : ∀ b, P1 b → b < B) (h2 : ∀ b, P2 b → b < B) (hb : Below B w w') : CM w' C sk bh la he dc P1 l1 e1 P2 l2 e2 := by
  have hc := hb.block C hC
  have e : ∀ k, w'.cell? ⟨C, k, none⟩ = w.cell? ⟨C, k, none⟩ := fun k => cellH hc
  have f : ∀ k, w'.frozen? ⟨C, k, none⟩ = w.frozen? ⟨C, k, none⟩ := fun k => frozH hc
  exact ⟨(e 0).trans h.c0, h.r1.kept2 hb.size hc fun b hp => hb.block b (h1 b hp), (e 3).trans h.c3, (e 4).trans h.c4, h.r5.kept2 hb.size hc fun b hp => hb.block b (h2 b hp), (e 7).trans h.c7, (e 8).trans h.c8, fun k => (f k).trans (h.fr k)⟩
theorem own_keepI {w w' : World} {base : Nat} {t : TypeId} {size : Nat} {v : Value} {n : Nat} {xs : List Value} (h : w.ownsRow base t size v n xs) (hk : ∀ g, base ≤ g → g < w.heap.size → w'.heap[g]? = w.heap[g]?) : w'.ownsRow base t size v n xs := by
  refine ⟨h.1, ?_⟩
  rcases h.2 with h | ⟨g, cap, cur, hv, hg, hh, r⟩
  · exact .inl h
  · exact .inr ⟨g, cap, cur, hv, hg, (hk g hg (row_lt hh)).trans hh, r⟩
/-- A hit in the making. -/
structure LM (w : World) (C : Nat) (st : PS) (P1 : Nat → Prop) (l1 : List UInt8) (e1 : Int) (P2 : Nat → Prop) (W1 : World) (H : Nat) (d : Nat) (wr : World) (v : Value) (ps : List Int) (l : List UInt8) (e2 : Int) : Prop where
  cm : CM wr C st.sk st.bh st.la (st.he - 1 : Nat) d P1 l1 e1 P2 l e2
  kx : KX C W1 wr
  h0 : wr.cell? ⟨H, 0, none⟩ = some (.int .i64 d)
  h1 : wr.cell? ⟨H, 1, none⟩ = some v
  f1 : wr.frozen? ⟨H, 1, none⟩ = false
  own : wr.ownsRow (H + 1) 3 1 v ps.length (ps.map eI)
  hH : W1.heap.size ≤ H
  hl : H < wr.heap.size
  hC : C < W1.heap.size
  p1 : ∀ b, P1 b → b < W1.heap.size
  p2 : ∀ b, P2 b → b < W1.heap.size
theorem LM.mv {w : World} {C : Nat} {st : PS} {P1 : Nat → Prop} {l1 : List UInt8} {e1 : Int} {P2 : Nat → Prop} {W1 : World} {H d : Nat} {wr w' : World} {v : Value} {ps : List Int} {l l' : List UInt8} {e2 e' : Int} (h : LM w C st P1 l1 e1 P2 W1 H d wr v ps l e2) (m : MvO wr w' C 5 P2 l' e') : LM w C st P1 l1 e1 P2 W1 H d w' v ps l' e' := by
  have hH := h.hH
  have hC := h.hC
  have hb := m.blk H (by omega)
  exact ⟨h.cm.mv5 m, h.kx.trans m.kx, (cellH hb).trans h.h0, (cellH hb).trans h.h1, (m.frz _).trans h.f1, own_keepI h.own fun g hg _ => m.blk g (by omega), h.hH, by rw [m.size]; exact h.hl, h.hC, h.p1, h.p2⟩
theorem LM.app {w : World} {C : Nat} {st : PS} {P1 : Nat → Prop} {l1 : List UInt8} {e1 : Int} {P2 : Nat → Prop} {W1 : World} {H d : Nat} {wr w4 : World} {v v4 : Value} {ps qs : List Int} {l : List UInt8} {e2 : Int} {o : Obj} (h : LM w C st P1 l1 e1 P2 W1 H d wr v ps l e2)
    (hown : w4.ownsRow (H + 1) 3 1 v4 qs.length (qs.map eI)) (hg : (wr.alloc o).grownBy w4 v.ownBlock) : w4.cell? ⟨H, 1, none⟩ = some v ∧ w4.frozen? ⟨H, 1, none⟩ = false ∧ LM w C st P1 l1 e1 P2 W1 H d (w4.setCell ⟨H, 1, none⟩ v4) v4 qs l e2 := by
  have hH := h.hH
  have hl := h.hl
  have b1 : Below wr.heap.size wr (wr.alloc o) := (Below.refl _ _).alloc (Nat.le_refl _) _
  have b4 : Below (H + 1) wr w4 := own_grow (own_below h.own b1) (Nat.le_refl _) (b1.mono (by omega : H + 1 ≤ wr.heap.size)) (by have := b1.size; omega) hg
  have e1' := (b4.cell (p := ⟨H, 1, none⟩) (Nat.lt_succ_self H)).trans h.h1
  have e0' := (b4.cell (p := ⟨H, 0, none⟩) (Nat.lt_succ_self H)).trans h.h0
  have f1' := (b4.frozen (p := ⟨H, 1, none⟩) (Nat.lt_succ_self H)).trans h.f1
  have b5 : Below H wr (w4.setCell ⟨H, 1, none⟩ v4) := (b4.mono (by omega)).setCell (p := ⟨H, 1, none⟩) (Nat.le_refl H) v4
  refine ⟨e1', f1', ⟨h.cm.upto (by have := h.hC; omega) (fun b hb => by have := h.p1 b hb; omega) (fun b hb => by have := h.p2 b hb; omega) b5, ?_, ?_, World.cell?_setCell_same _ _ _ (by rw [e1']), by simpa using f1', ownsRow_setCell_below hown (a := ⟨H, 1, none⟩) (by show H < H + 1; omega) v4, hH, by have := b5.size; omega, h.hC, h.p1, h.p2⟩⟩
  · exact ⟨b5.os.trans h.kx.os, b5.tape.trans h.kx.tape, b5.output.trans h.kx.output, Nat.le_trans h.kx.size b5.size, fun g hg hs => (b5.block g (by omega)).trans (h.kx.blk g hg hs)⟩
  · rw [so (by decide)]; exact e0'
/-- look ends with a hit. -/
theorem LM.fin {G : Nat → Prop} {w : World} {C : Nat} {st : PS} {P1 : Nat → Prop} {l1 : List UInt8} {e1 : Int} {P2 : Nat → Prop} {W1 : World} {H d : Nat} {wr : World} {v : Value} {ps : List Int} {l : List UInt8} (h : LM w C st P1 l1 e1 P2 W1 H d wr v ps l 0) (hk : LK G w C st P1 l1 e1 P2 W1) (hc : Cur G w C st) (hd : d ≤ st.dc + 1000) (hhe : 0 < st.he) (hl : l.length ≤ 10000) :
    Cur G ((wr.setCell ⟨w.heap.size, 0, none⟩ (.int .i64 d)).setCell ⟨w.heap.size, 1, none⟩ v) C { st with he := st.he - 1, kb := l, dc := d } ∧ KX C w ((wr.setCell ⟨w.heap.size, 0, none⟩ (.int .i64 d)).setCell ⟨w.heap.size, 1, none⟩ v) ∧
      ((wr.setCell ⟨w.heap.size, 0, none⟩ (.int .i64 d)).setCell ⟨w.heap.size, 1, none⟩ v).cell? ⟨w.heap.size, 0, none⟩ = some (.int .i64 d) ∧ ((wr.setCell ⟨w.heap.size, 0, none⟩ (.int .i64 d)).setCell ⟨w.heap.size, 1, none⟩ v).cell? ⟨w.heap.size, 1, none⟩ = some v ∧
      ((wr.setCell ⟨w.heap.size, 0, none⟩ (.int .i64 d)).setCell ⟨w.heap.size, 1, none⟩ v).ownsRow (H + 1) 3 1 v ps.length (ps.map eI) := by
  obtain ⟨r0, r1, _, _⟩ := hk.r wr h.kx
  have h1 := (h.cm.res w.heap.size 0 (.int .i64 d) hk.ne hk.n1 hk.n2).res w.heap.size 1 v hk.ne hk.n1 hk.n2
  have hH := h.hH
  have hlt := hk.lt
  have b3 := hc.b3
  have b4 := hc.b4 hhe
  have b5 := hc.b5
  have b2 := hc.b2
  refine ⟨CM.cur (st := { st with he := st.he - 1, kb := l, dc := d }) h1 hk.er hk.bb hk.z1 (fun _ => ⟨rfl, rfl⟩) hl (fun _ => rfl) hc.b1 (by simp only; omega) b3 (fun _ => by simp only; omega) b5 (fun k => hc.b6 k) hk.g1 hk.g2, ?_, ?_, ?_, ?_⟩
  · have a := hk.kx.trans h.kx
    exact ⟨a.os, a.tape, a.output, by have := a.size; simpa [World.setCell] using this, fun g hg hs => ((Below.heap_setCell _ _ _ _ (by show g ≠ w.heap.size; omega)).trans (Below.heap_setCell _ _ _ _ (by show g ≠ w.heap.size; omega))).trans (a.blk g hg hs)⟩
  · rw [so (by decide)]
    exact World.cell?_setCell_same _ _ _ (by rw [r0])
  · exact World.cell?_setCell_same _ _ _ (by rw [so (by decide), r1])
  · exact ownsRow_setCell_below (ownsRow_setCell_below h.own (a := ⟨w.heap.size, 0, none⟩) (by show w.heap.size < H + 1; omega) _) (a := ⟨w.heap.size, 1, none⟩) (by show w.heap.size < H + 1; omega) _
theorem num65_none (R o : Nat) (P : Nat → Prop) (l : List UInt8) (w : World) (h : RdO w R o P l 0) (hn : l.length ≤ 1000000) (HG : Hid (rdN l 65536 = none)) :
    Calls Try.prog 45 #[.pointer (some ⟨R, o, none⟩), .int .i64 65536] w fun e w' => e = .returned (.int .i64 0) ∧ MvO w w' R o P l 2 := num_none_o R o P l 65536 w h hn HG (by decide)
theorem num65_some (R o : Nat) (P : Nat → Prop) (l : List UInt8) (N : Nat) (r : List UInt8) (w : World) (h : RdO w R o P l 0) (hn : l.length ≤ 1000000) (HG : Hid (rdN l 65536 = some (N, r))) :
    Calls Try.prog 45 #[.pointer (some ⟨R, o, none⟩), .int .i64 65536] w fun e w' => e = .returned (.int .i64 N) ∧ MvO w w' R o P r 0 := num_some_o R o P l 65536 N r w h hn HG (by decide)
set_option maxHeartbeats 2000000 in
theorem look_mid (G : Nat → Prop) (C : Nat) (st : PS) (w : World) (h : Cur G w C st) (hhe : 0 < st.he) (x : Nat) (k1 : List UInt8) (HK : Hid (rdN st.kb 1000 = some (x, k1))) :
    Calls Try.prog 47 #[.pointer (some ⟨C, 0, none⟩)] w fun e w' => ∃ v, e = .returned v ∧ HitV w' w.heap.size (lookP st).1 v ∧ Cur G w' C (lookP st).2 ∧ KX C w w' := by
  obtain ⟨X, hX⟩ : ∃ X, w.alloc (.cells #[.int .i64 0, .slice none 0 0] 37) = X := ⟨_, rfl⟩
  obtain ⟨he1, hhe1⟩ : ∃ he1, he1 = st.he - 1 := ⟨_, rfl⟩
  have hne : ((st.he : Nat) : Int) - 1 = (he1 : Int) := by omega
  obtain ⟨W1, hW1⟩ : ∃ W1, X.setCell ⟨C, 7, none⟩ (.int .i64 (he1 : Int)) = W1 := ⟨_, rfl⟩
  obtain ⟨P1, l1, e1, P2, hlk, x7, f7⟩ := h.lk hhe X W1 hX (by rw [← hhe1]; exact hW1)
  have HLK := Lib.hid hlk
  have HC := Lib.hid h
  have HHE := Lib.hid hhe
  have hb2 := h.b2
  have hb4 := h.b4 hhe
  have hx := (rdN_some HK.out).2.1
  have hkl := rdN_len HK.out
  have hz2 := hlk.z2
  have hCw := h.lt
  have hlt1 := hlk.lt
  obtain ⟨d, hd⟩ : ∃ d, d = st.dc + x := ⟨_, rfl⟩
  have q8 : IntKind.i64.wrap (d : Int) = (d : Int) := by rw [IntKind.wrap_i64]; omega
  have q8' : ((st.dc : Nat) : Int) + (x : Int) = (d : Int) := by omega
  have HDX : Hid (d = st.dc + x) := hd
  have bd : Below W1.heap.size W1 W1.drew := (Below.refl _ _).drew
  have KN : Hid (Calls Try.prog 45 #[.pointer (some ⟨C, 5, none⟩), .int .i64 1000] W1.drew fun e w' => e = .returned (.int .i64 x) ∧ MvO W1.drew w' C 5 P2 k1 0) := num_some_o C 5 P2 st.kb 1000 x k1 W1.drew (hlk.cm.below bd).r5 (by omega) HK (by decide)
  have HCd := Lib.hid (hlk.cm.below bd)
  have KXd : Hid (KX C W1 W1.drew) := KX.of_below bd (Nat.le_refl _)
  have y8 := HCd.out.c8
  have HP : Hid ((∀ b, P1 b → b < W1.heap.size) ∧ (∀ b, P2 b → b < W1.heap.size)) := ⟨fun b hb => (hlk.cm.r1.1 b hb).2, fun b hb => (hlk.cm.r5.1 b hb).2⟩
  have hk1 : k1.length ≤ 10000 := by omega
  clear h hlk bd hhe1 hd
  go_enter Try.func47, Try.ntmps47
  go_wp2_with fail
  go_region_with (first | (go_at_call 45; (with_reducible refine KN.out.mono ?_); rintro e w2 ⟨rfl, m2⟩; have hC2 := HCd.out.mv5 m2; have z8 := hC2.c8; have f8 := hC2.fr 8))
  all_goals
    have hC3 := hC2.set8 (d : Int)
    have hK3 := KXd.out.trans (m2.kx.trans (KX.set (o := 8) (.int .i64 (d : Int))))
    obtain ⟨W3, hW3⟩ : ∃ W3, w2.setCell ⟨C, 8, none⟩ (.int .i64 (d : Int)) = W3 := ⟨_, rfl⟩
    rw [hW3] at hC3 hK3
    have z9 := hC3.c8
    have b4 : Below W3.heap.size W3 (W3.alloc (.cells #[.int .i64 (d : Int), .slice none 0 0] 37)) := (Below.refl _ _).alloc (Nat.le_refl _) _
    have hC4 := hC3.below b4
    have hK4 := hK3.trans (KX.of_below b4 (Nat.le_refl _))
    have HLM : Hid (LM w C st P1 l1 e1 P2 W1 W3.heap.size d (W3.alloc (.cells #[.int .i64 (d : Int), .slice none 0 0] 37)) (.slice none 0 0) [] k1 0) := ⟨hC4, hK4, by simp, by simp, by simp, World.ownsRow_nil _ _ _ _, hK3.size, by simp, by omega, HP.out.1, HP.out.2⟩
    clear hC2 hC3 hK3 b4 hC4 hK4 m2 y8 z8
    cases hM : rdN k1 65536 with
    | none =>
      have HM := Lib.hid hM
      have hL : Hid (lookP st = (none, { st with he := 0, bh := 0 })) := by show _ = _; unfold lookP; rw [hitP_no2 HK.out hM]; rfl
      clear hM
      go_wp2_with fail
      (with_reducible refine (num65_none C 5 P2 k1 _ HLM.out.cm.r5 (by omega) HM).mono ?_)
      rintro e w5 ⟨rfl, m5⟩
      have HL5 := Lib.hid (HLM.out.mv m5)
      clear m5 HLM
      go_wp2_with fail
      go_loopw [33] (fun s33 wr => s33 = .int .i64 0 ∧ w5 = wr) (fun _ _ => 0)
      case atStart => exact ⟨rfl, rfl⟩
      case round =>
        obtain ⟨rfl, rfl⟩ := hrel
        go_wp2_with fail
        (with_reducible refine (err_o C 5 P2 _ 2 _ HL5.out.cm.r5).mono ?_)
        rintro e w6 ⟨rfl, rfl⟩
        have u7 := HL5.out.cm.c7
        have u3 := HL5.out.cm.c3
        have g7 := HL5.out.cm.fr 7
        have g3 := HL5.out.cm.fr 3
        obtain ⟨r0, r1, r2, r3⟩ := HLK.out.r _ HL5.out.kx
        have hne0 := HLK.out.ne
        have FIN := Lib.hid (HLK.out.fin HC.out HL5.out.kx HL5.out.cm hk1)
        go_wp2_with fail
        have q0 := FIN.out.2.2.1
        have q1 := FIN.out.2.2.2
        refine bodyPost_ret (v := .tuple #[.agg #[.int .i64 0, .slice none 0 0], .bool false]) ?_ rfl ⟨_, rfl, by rw [hL.out]; rfl, by rw [hL.out]; exact FIN.out.1, FIN.out.2.1⟩
        simp [results, Try.results47, go_sem, q0, q1]
    | some pm =>
      obtain ⟨m, k2⟩ := pm
      have HM := Lib.hid hM
      have hmb := (rdN_some hM).2.1
      have hk2 := rdN_len hM
      have HHP : Hid (hitP st.kb st.dc = (plP m 0 k2).map fun q => ((d, q.1), q.2)) := by show _ = _; rw [hitP_at HK.out hM, HDX.out]
      clear hM
      go_wp2_with fail
      (with_reducible refine (num65_some C 5 P2 k1 m k2 _ HLM.out.cm.r5 (by omega) HM).mono ?_)
      rintro e w5 ⟨rfl, m5⟩
      have HL5 := Lib.hid (HLM.out.mv m5)
      clear m5 HLM
      go_wp2_with fail
      go_loopw [5, 33] (fun s5 s33 wr => ∃ (j p : Nat) (ps : List Nat) (l : List UInt8) (v : Value), s33 = .int .i64 j ∧ s5 = .int .i64 p ∧ Hid (StP k2 m j p ps l) ∧ Hid (LM w C st P1 l1 e1 P2 W1 W3.heap.size d wr v (ps.map fun (n : Nat) => (n : Int)) l 0)) (fun _ i _ => m - (intOf i).toNat)
      case atStart => exact ⟨0, 0, [], k2, _, rfl, rfl, StP.start k2 m, HL5⟩
      case round =>
        obtain ⟨j, p, ps, l, v, rfl, rfl, HS, HL⟩ := hrel
        have hjm := HS.out.le
        have hsz := HS.out.sz
        have hpb := HS.out.pb
        by_cases hlt : j < m
        · have hltI : (j : Int) < (m : Int) := by omega
          cases hN : rdN l 65536 with
          | none =>
            have HN := Lib.hid hN
            have hL : Hid (lookP st = (none, { st with he := 0, bh := 0 })) := by show _ = _; unfold lookP; rw [HHP.out, HS.out.no hlt hN]; rfl
            clear hN
            go_wp2_with fail
            (with_reducible refine (num65_none C 5 P2 l _ HL.out.cm.r5 (by omega) HN).mono ?_)
            rintro e w6 ⟨rfl, m6⟩
            have HL6 := Lib.hid (HL.out.mv m6)
            clear m6
            have q5 : IntKind.i64.wrap (p : Int) = (p : Int) := by rw [IntKind.wrap_i64]; omega
            go_wp2_with fail
            (with_reducible refine (err_o C 5 P2 _ 2 _ HL6.out.cm.r5).mono ?_)
            rintro e w7 ⟨rfl, rfl⟩
            go_wp2_with fail
            (with_reducible refine (err_o C 5 P2 _ 2 _ HL6.out.cm.r5).mono ?_)
            rintro e w8 ⟨rfl, rfl⟩
            have u7 := HL6.out.cm.c7
            have u3 := HL6.out.cm.c3
            have g7 := HL6.out.cm.fr 7
            have g3 := HL6.out.cm.fr 3
            obtain ⟨r0, r1, r2, r3⟩ := HLK.out.r _ HL6.out.kx
            have hne0 := HLK.out.ne
            have FIN := Lib.hid (HLK.out.fin HC.out HL6.out.kx HL6.out.cm (by omega))
            go_wp2_with fail
            have q0 := FIN.out.2.2.1
            have q1 := FIN.out.2.2.2
            refine bodyPost_ret (v := .tuple #[.agg #[.int .i64 0, .slice none 0 0], .bool false]) ?_ rfl ⟨_, rfl, by rw [hL.out]; rfl, by rw [hL.out]; exact FIN.out.1, FIN.out.2.1⟩
            simp [results, Try.results47, go_sem, q0, q1]
          | some pn =>
            obtain ⟨y, l'⟩ := pn
            have HN := Lib.hid hN
            have HSN := Lib.hid (HS.out.on hlt hN)
            have hyb := (rdN_some hN).2.1
            obtain ⟨p', hp'⟩ : ∃ p', p' = p + y := ⟨_, rfl⟩
            have q5 : (p : Int) + (y : Int) = (p' : Int) := by omega
            rw [← hp'] at HSN
            have hpp : p' ≤ 4000000000 := by omega
            clear hN hp'
            go_wp2_with fail
            (with_reducible refine (num65_some C 5 P2 l y l' _ HL.out.cm.r5 (by omega) HN).mono ?_)
            rintro e w6 ⟨rfl, m6⟩
            have HL6 := Lib.hid (HL.out.mv m6)
            clear m6
            go_wp2_with fail
            (with_reducible refine (err_o C 5 P2 _ 0 _ HL6.out.cm.r5).mono ?_)
            rintro e w7 ⟨rfl, rfl⟩
            have c1 := HL6.out.h1
            have b6 : Below w6.heap.size w6 (w6.alloc (.cells #[.int .i64 (p' : Int)] 3)) := (Below.refl _ _).alloc (Nat.le_refl _) _
            have hln : (ps.map fun (n : Nat) => (n : Int)).length = j := by rw [List.length_map]; exact HS.out.len
            have HOA : Hid ((w6.alloc (.cells #[.int .i64 (p' : Int)] 3)).ownsRow (W3.heap.size + 1) 3 1 v j ((ps.map fun (n : Nat) => (n : Int)).map eI)) := by
              have := own_below HL6.out.own b6
              rw [hln] at this
              exact this
            have HLN := Lib.hid hln
            have HLJ : Hid ((ps.map fun (n : Nat) => (n : Int)) ++ [(p' : Int)] = (ps ++ [p']).map (fun (n : Nat) => (n : Int)) ∧ ((ps ++ [p']).map fun (n : Nat) => (n : Int)).length = j + 1) := ⟨by simp, by rw [List.length_map, List.length_append, HS.out.len]; rfl⟩
            have HCA : Hid (CS (w6.alloc (.cells #[.int .i64 (p' : Int)] 3)) (w6.heap.size + 1) (some ⟨w6.heap.size, 0, none⟩) (([(p' : Int)] : List Int).map eI)) := fun _ => ⟨w6.heap.size, 0, rfl, by omega, fun q u hu => by
              have z := new_cells w6 #[.int .i64 (p' : Int)] 3 (0, 0) q u hu
              rwa [add_addr] at z⟩
            have hsA : W3.heap.size + 1 ≤ (w6.alloc (.cells #[.int .i64 (p' : Int)] 3)).heap.size := by have := HL6.out.hl; simp; omega
            clear b6 hln
            go_wp2_with (first
              | (at_builtin; refine wpList_appendI _ rfl (.tmp 47) (.tmp 49) rfl (W3.heap.size + 1) v (ps.map fun (n : Nat) => (n : Int)) j HLN.out rfl HOA.out (some ⟨w6.heap.size, 0, none⟩) 1 1 _ [(p' : Int)] ((ps ++ [p']).map fun (n : Nat) => (n : Int)) (j + 1) rfl rfl HCA.out HLJ.out.1 HLJ.out.2 (by omega) hsA ?_; intro v4 w8 hown8 hg8; obtain ⟨gg, cap, rfl⟩ := ownsRow_succ hown8; rw [← HLJ.out.2] at hown8; obtain ⟨c8, f8', hl8⟩ := HL6.out.app hown8 hg8; have HL8 := Lib.hid hl8))
            go_roundw
            case rel => exact ⟨j + 1, p', ps ++ [p'], l', _, by go_num, rfl, HSN, by show LM _ _ _ _ _ _ _ _ _ _ _ _ _ _ _; have := HL8.out; rw [HLJ.out.2] at this; exact this⟩
            case measure => simp [intOf]; omega
        · obtain rfl : j = m := by omega
          have hL : Hid (lookP st = (some (d, ps), { st with he := st.he - 1, kb := l, dc := d })) := by show _ = _; unfold lookP; rw [HHP.out, HS.out.done]; rfl
          have FIN := Lib.hid (HL.out.fin HLK.out HC.out (by have := HDX.out; omega) HHE.out (by omega))
          have hln : (ps.map fun (n : Nat) => (n : Int)).length = ps.length := List.length_map _
          obtain ⟨A9, c9, rfl, hn9, hm9, hcs9, hob9⟩ := own_form FIN.out.2.2.2.2
          have hob : ∀ a, A9 = some a → w.heap.size ≤ a.block := fun a e => by
            have h1 := (hob9 a.block (by rw [e]; rfl)).1
            have h2 := HL.out.hH
            omega
          have HOB := Lib.hid hob
          clear hob hob9
          have hltI : ¬ (j : Int) < (j : Int) := by omega
          have t0 := HL.out.h0
          have t1 := HL.out.h1
          obtain ⟨r0, r1, r2, r3⟩ := HLK.out.r _ HL.out.kx
          have HNM := Lib.hid (And.intro hn9 (And.intro hm9 (And.intro hln hcs9)))
          obtain ⟨n9, hn9'⟩ : ∃ n9, n9 = (ps.map fun (n : Nat) => (n : Int)).length := ⟨_, rfl⟩
          rw [← hn9'] at t1 FIN HNM
          have HN9 := Lib.hid hn9'
          have hne0 := HLK.out.ne
          clear hn9 hm9 hcs9 hln hn9'
          go_wp2_with fail
          (with_reducible refine (err_o C 5 P2 _ 0 _ HL.out.cm.r5).mono ?_)
          rintro e w7 ⟨rfl, rfl⟩
          go_wp2_with fail
          have q0 := FIN.out.2.2.1
          have q1 := FIN.out.2.2.2.1
          refine bodyPost_ret (v := .tuple #[.agg #[.int .i64 d, .slice A9 n9 c9], .bool true]) ?_ rfl ⟨_, rfl, by rw [hL.out]; exact ⟨A9, c9, by rw [HNM.out.2.2.1], by rw [← HNM.out.2.2.1]; exact HNM.out.1, HNM.out.2.1, HNM.out.2.2.2, HOB.out⟩, by rw [hL.out]; exact FIN.out.1, FIN.out.2.1⟩
          simp [results, Try.results47, go_sem, q0, q1]
theorem look_any (G : Nat → Prop) (C : Nat) (st : PS) (w : World) (h : Cur G w C st) (hhe : 0 < st.he) :
    Calls Try.prog 47 #[.pointer (some ⟨C, 0, none⟩)] w fun e w' => ∃ v, e = .returned v ∧ HitV w' w.heap.size (lookP st).1 v ∧ Cur G w' C (lookP st).2 ∧ KX C w w' := by
  cases hK : rdN st.kb 1000 with
  | none => exact look_no1 G C st w h hhe hK
  | some p => exact look_mid G C st w h hhe p.1 p.2 hK
end Go.Proofs.Ytjigaoclngfcaaa
