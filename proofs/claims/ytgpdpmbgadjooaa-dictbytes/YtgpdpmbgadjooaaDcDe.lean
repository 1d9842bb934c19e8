/- dict.Decode. -/
import Derived.Test.YtgpdpmbgadjooaaDcEn
import Derived.Test.YtgpdpmbgadjooaaDcDs
import Derived.Test.YtgpdpmbgadjooaaRdP
import Derived.Deep.RegionWith
import Derived.Test.YtgpdpmbgadjooaaDcAp
namespace Go.Proofs.Ytgpdpmbgadjooaa
open Go.RowKit Go.Sort
set_option maxRecDepth 100000

/-- All that was there is as it was, but for block R. -/
structure BX (R : Nat) (w w' : World) : Prop where
  os : w'.os = w.os
  tape : w'.tape = w.tape
  output : w'.output = w.output
  size : w.heap.size ≤ w'.heap.size
  blk : ∀ g, g ≠ R → g < w.heap.size → w'.heap[g]? = w.heap[g]?
theorem BX.refl (R : Nat) (w : World) : BX R w w := ⟨rfl, rfl, rfl, Nat.le_refl _, fun _ _ _ => rfl⟩
theorem BX.trans {R : Nat} {a b c : World} (h : BX R a b) (k : BX R b c) : BX R a c := ⟨k.os.trans h.os, k.tape.trans h.tape, k.output.trans h.output, Nat.le_trans h.size k.size, fun g hg hs => (k.blk g hg (Nat.lt_of_lt_of_le hs h.size)).trans (h.blk g hg hs)⟩
theorem BX.of_below {R B : Nat} {w w' : World} (h : Below B w w') (hB : w.heap.size ≤ B) : BX R w w' := ⟨h.os, h.tape, h.output, h.size, fun g _ hs => h.block g (by omega)⟩
theorem MvO.bx {w w' : World} {R o : Nat} {P : Nat → Prop} {l : List UInt8} {e : Int} (h : MvO w w' R o P l e) : BX R w w' := ⟨h.bel.os, h.bel.tape, h.bel.output, by rw [h.size]; exact Nat.le_refl _, fun g hg _ => h.blk g hg⟩
theorem BX.below {R : Nat} {w w' : World} (h : BX R w w') (hR : R ≤ w.heap.size) : Below R w w' := ⟨h.os, h.tape, h.output, h.size, fun g hg => h.blk g (by omega) (by omega)⟩
theorem own_keep {w w' : World} {base : Nat} {t : TypeId} {size : Nat} {v : Value} {n : Nat} {xs : List Value} (h : w.ownsRow base t size v n xs) (hk : ∀ g, base ≤ g → g < w.heap.size → w'.heap[g]? = w.heap[g]?) : w'.ownsRow base t size v n xs := by
  refine ⟨h.1, ?_⟩
  rcases h.2 with h | ⟨g, cap, cur, hv, hg, hh, r⟩
  · exact .inl h
  · exact .inr ⟨g, cap, cur, hv, hg, (hk g hg (row_lt hh)).trans hh, r⟩
theorem RdO.keepB {w w' : World} {R o B : Nat} {P : Nat → Prop} {l : List UInt8} {e : Int} (h : RdO w R o P l e) (hb : Below B w w') (hR : R < B) (hP : ∀ b, P b → b < B) : RdO w' R o P l e := by
  obtain ⟨h1, A, c, c0, c1, f0, f1, hc, hn⟩ := h
  exact ⟨fun b hb' => ⟨(h1 b hb').1, Nat.lt_of_lt_of_le (h1 b hb').2 hb.size⟩, A, c, (hb.cell (p := ⟨R, o, none⟩) hR).trans c0, (hb.cell (p := ⟨R, o + 1, none⟩) hR).trans c1, (hb.frozen (p := ⟨R, o, none⟩) hR).trans f0, (hb.frozen (p := ⟨R, o + 1, none⟩) hR).trans f1, hc, hn.keep fun p hp => hb.cell (hP _ hp)⟩
theorem RdO.lt {w : World} {R o : Nat} {P : Nat → Prop} {l : List UInt8} {e : Int} (h : RdO w R o P l e) : R < w.heap.size := by
  obtain ⟨_, A, c, c0, _⟩ := h
  exact World.block_lt_of_cell? w _ c0
/-- Words in the making, out of a Reader. -/
structure DS (w0 wr : World) (R D0 : Nat) (P : Nat → Prop) (l' : B8) (us : List B8) (v : Value) (err : Int) : Prop where
  dv : DV wr (D0 + 1) us v
  rd : RdO wr R 0 P l' err
  c : wr.cell? ⟨D0, 0, none⟩ = some (.slice none 0 0)
  f : wr.frozen? ⟨D0, 0, none⟩ = false
  bx : BX R w0 wr
  hR : R < D0
  hP : ∀ b, P b → b < D0
  hD : w0.heap.size = D0
theorem DS.mv {w0 wr w' : World} {R D0 : Nat} {P : Nat → Prop} {l' l'' us} {v : Value} {err err' : Int} (h : DS w0 wr R D0 P l' us v err) (m : MvO wr w' R 0 P l'' err') : DS w0 w' R D0 P l'' us v err' := by
  have hR := h.hR
  have k : ∀ g, g ≠ R → w'.heap[g]? = wr.heap[g]? := m.blk
  refine ⟨⟨by rw [m.size]; exact h.dv.lt, (cell_of_heap (k (D0 + 1) (by omega))).trans h.dv.c0, (m.frz _).trans h.dv.fr, own_keep h.dv.r0 fun g hg _ => k g (by omega)⟩, m.rd, (cell_of_heap (k D0 (by omega))).trans h.c, (m.frz _).trans h.f, h.bx.trans m.bx, h.hR, h.hP, h.hD⟩
theorem DS.bel {w0 wr w' : World} {R D0 : Nat} {P : Nat → Prop} {l' us} {v : Value} {err : Int} (h : DS w0 wr R D0 P l' us v err) (hb : Below wr.heap.size wr w') : DS w0 w' R D0 P l' us v err := by
  have hR := h.hR
  have hl := h.dv.lt
  exact ⟨h.dv.below hb, h.rd.keepB hb (by omega) (fun b hb' => by have := h.hP b hb'; omega), (hb.cell (p := ⟨D0, 0, none⟩) (by show D0 < _; omega)).trans h.c, (hb.frozen (p := ⟨D0, 0, none⟩) (by show D0 < _; omega)).trans h.f, h.bx.trans (BX.of_below hb (Nat.le_refl _)), h.hR, h.hP, h.hD⟩
theorem DS.app {w0 wr w' : World} {R D0 : Nat} {P : Nat → Prop} {l' us us'} {v v' : Value} {err : Int} (h : DS w0 wr R D0 P l' us v err) (hb : Below (D0 + 1) wr w') (hv : DV w' (D0 + 1) us' v') : DS w0 w' R D0 P l' us' v' err := by
  have hR := h.hR
  have hD := h.hD
  refine ⟨hv, h.rd.keepB hb (by omega) (fun b hb' => by have := h.hP b hb'; omega), (hb.cell (p := ⟨D0, 0, none⟩) (by show D0 < _; omega)).trans h.c, (hb.frozen (p := ⟨D0, 0, none⟩) (by show D0 < _; omega)).trans h.f, ?_, h.hR, h.hP, h.hD⟩
  exact ⟨hb.os.trans h.bx.os, hb.tape.trans h.bx.tape, hb.output.trans h.bx.output, Nat.le_trans h.bx.size hb.size, fun g hg hs => (hb.block g (by omega)).trans (h.bx.blk g hg hs)⟩
def DecNo (w : World) (R : Nat) (e : Ending) (w' : World) : Prop := e = .returned (.tuple #[.agg #[.slice none 0 0], .int .i64 2]) ∧ BX R w w'
def DecOk (w : World) (R : Nat) (P : Nat → Prop) (ws : List B8) (rest : B8) (e : Ending) (w' : World) : Prop := ∃ A n c, e = .returned (.tuple #[.agg #[.slice A n c], .int .i64 0]) ∧ DT w' A n c ws ∧ RdO w' R 0 P rest 0 ∧ BX R w w'
def DecP (w : World) (R : Nat) (P : Nat → Prop) (l : B8) (e : Ending) (w' : World) : Prop := (dD l = none → DecNo w R e w') ∧ ∀ ws rest, dD l = some (ws, rest) → DecOk w R P ws rest e w'
theorem DecP.no {w : World} {R : Nat} {P : Nat → Prop} {l : B8} {e : Ending} {w' : World} (h : dD l = none) (k : DecNo w R e w') : DecP w R P l e w' := ⟨fun _ => k, fun ws rest h' => (by rw [h] at h'; cases h')⟩
theorem DecP.ok {w : World} {R : Nat} {P : Nat → Prop} {l : B8} {ws : List B8} {rest : B8} {e : Ending} {w' : World} (h : dD l = some (ws, rest)) (k : DecOk w R P ws rest e w') : DecP w R P l e w' := ⟨fun h' => (by rw [h] at h'; cases h'), fun ws' rest' h' => by
  rw [h] at h'
  injection h' with h'
  injection h' with h1 h2
  subst h1 h2
  exact k⟩
theorem DS.fin {w0 wr : World} {R D0 : Nat} {P : Nat → Prop} {l' us} {v : Value} {err : Int} (h : DS w0 wr R D0 P l' us v err) (x : Value) : BX R w0 (wr.setCell ⟨D0, 0, none⟩ x) ∧ (wr.setCell ⟨D0, 0, none⟩ x).cell? ⟨D0, 0, none⟩ = some x ∧ RdO (wr.setCell ⟨D0, 0, none⟩ x) R 0 P l' err ∧ (wr.setCell ⟨D0, 0, none⟩ x).ownsRow (D0 + 2) 9 1 v us.length (us.map encStr) := by
  have hb : Below D0 wr (wr.setCell ⟨D0, 0, none⟩ x) := (Below.refl D0 wr).setCell (p := ⟨D0, 0, none⟩) (Nat.le_refl _) x
  have hD := h.hD
  refine ⟨⟨hb.os.trans h.bx.os, hb.tape.trans h.bx.tape, hb.output.trans h.bx.output, Nat.le_trans h.bx.size hb.size, fun g hg hs => (hb.block g (by omega)).trans (h.bx.blk g hg hs)⟩, World.cell?_setCell_same _ _ _ (by rw [h.c]), h.rd.keepB hb h.hR h.hP, ?_⟩
  exact ownsRow_setCell_below h.dv.r0 (a := ⟨D0, 0, none⟩) (by show D0 < D0 + 2; omega) x
set_option maxHeartbeats 2000000 in
theorem decode_any (R : Nat) (P : Nat → Prop) (l : B8) (hl : l.length ≤ 100000) (HNF : Hid (∀ N r, rdN l l.length = some (N, r) → N ≤ 1000)) (w : World) (hr : RdO w R 0 P l 0) :
    Calls Try.prog 35 #[.pointer (some ⟨R, 0, none⟩)] w (DecP w R P l) := by
  obtain ⟨i0, hi, hz0, hz1, hz2⟩ := info_parts infoStr
  obtain ⟨X, hX⟩ : ∃ X, (w.alloc (.cells #[.slice none 0 0] 55)).alloc (.cells #[.slice none 0 0] 55) = X := ⟨_, rfl⟩
  have b1 : Below w.heap.size w (w.alloc (.cells #[.slice none 0 0] 55)) := (Below.refl _ _).alloc (Nat.le_refl _) _
  have hs1 : (w.alloc (.cells #[.slice none 0 0] 55)).heap.size = w.heap.size + 1 := by simp
  have b2 : Below (w.heap.size + 1) (w.alloc (.cells #[.slice none 0 0] 55)) X := by rw [← hX, ← hs1]; exact (Below.refl _ _).alloc (Nat.le_refl _) _
  have bX : Below w.heap.size w X := b1.trans (b2.mono (by omega))
  have HDS : Hid (DS w X R w.heap.size P l [] (.slice none 0 0) 0) := by
    refine ⟨?_, hr.keepB bX hr.lt (fun b hb => (hr.1 b hb).2), ?_, ?_, BX.of_below bX (Nat.le_refl _), hr.lt, fun b hb => (hr.1 b hb).2, rfl⟩
    · have := DV.new (w.alloc (.cells #[.slice none 0 0] 55))
      rw [hX, hs1] at this
      exact this
    · exact (b2.cell (p := ⟨w.heap.size, 0, none⟩) (by show w.heap.size < w.heap.size + 1; omega)).trans (DV.new w).c0
    · exact (b2.frozen (p := ⟨w.heap.size, 0, none⟩) (by show w.heap.size < w.heap.size + 1; omega)).trans (DV.new w).fr
  have hRw := hr.lt
  have HN0 : Hid (∀ W, DS w W R w.heap.size P l [] (.slice none 0 0) 2 → dD l = none → DecP w R P l (.returned (.tuple #[.agg #[.slice none 0 0], .int .i64 2])) (W.setCell ⟨w.heap.size, 0, none⟩ (.slice none 0 0))) := fun W h hd => .no hd ⟨rfl, (h.fin _).1⟩
  have HN1 : Hid (∀ (W : World) (l' : B8) (us : List B8) {v : Value} {err : Int}, DS w W R w.heap.size P l' us v err → dD l = none → DecP w R P l (.returned (.tuple #[.agg #[.slice none 0 0], .int .i64 2])) (W.setCell ⟨w.heap.size, 0, none⟩ (.slice none 0 0))) := fun W l' us _ _ h hd => .no hd ⟨rfl, (h.fin _).1⟩
  clear b1 b2 bX hr
  go_enter Try.func35, Try.ntmps35
  go_wp2_with fail
  with_reducible refine (left_o R 0 P l 0 _ HDS.out.rd).mono ?_
  rintro e w1 ⟨rfl, rfl⟩
  cases hN : rdN l l.length with
  | none =>
    have HG := Lib.hid hN
    have HDN := Lib.hid (dD_none hN)
    clear hN
    go_wp2_with fail
    with_reducible refine (num_none_o R 0 P l l.length _ HDS.out.rd (by omega) HG (by omega)).mono ?_
    rintro e w2 ⟨rfl, m2⟩
    have HD2 := Lib.hid (HDS.out.mv m2)
    have r2 := HD2.out.rd
    have c2 := HD2.out.c
    have f2 := HD2.out.f
    clear m2
    go_wp2_with fail
    go_loopw [5, 6, 7, 8, 13] (fun s5 s6 s7 s8 s13 wr => s13 = .int .i64 0 ∧ w2 = wr) (fun _ _ _ _ _ _ => 0)
    case atStart => exact ⟨rfl, rfl⟩
    case round =>
      obtain ⟨rfl, rfl⟩ := hrel
      go_wp2_with fail
      with_reducible refine (err_o R 0 P l 2 _ r2).mono ?_
      rintro e w3 ⟨rfl, rfl⟩
      clear r2
      go_wp2_with fail
      have e2 := (HD2.out.fin (.slice none 0 0)).2.1
      exact bodyPost_ret (v := .tuple #[.agg #[.slice none 0 0], .int .i64 2]) (by simp [results, Try.results35, go_sem, e2]) rfl (HN0.out _ HD2.out HDN.out)
  | some pr =>
    obtain ⟨N, l0⟩ := pr
    have HG := Lib.hid hN
    have HS0 := Lib.hid (StD.start hN)
    have hNl : N ≤ 1000 := HNF.out N l0 hN
    clear hN
    go_wp2_with fail
    with_reducible refine (num_some_o R 0 P l l.length N l0 _ HDS.out.rd (by omega) HG (by omega)).mono ?_
    rintro e w2 ⟨rfl, m2⟩
    have HD2 := Lib.hid (HDS.out.mv m2)
    clear m2 HDS
    go_wp2_with fail
    go_loopw [5, 6, 7, 8, 13] (fun s5 s6 s7 s8 s13 wr => ∃ (k : Nat) (us : List B8) (l' : B8) (v : Value), s13 = .int .i64 k ∧ s5 = .string ⟨(lastD [] us).toArray⟩ ∧ Hid (StD l N k us l') ∧ Hid (DS w wr R w.heap.size P l' us v 0)) (fun _ _ _ _ i _ => N - (intOf i).toNat)
    case atStart => exact ⟨0, [], l0, _, rfl, rfl, HS0, HD2⟩
    case round =>
      obtain ⟨k, us, l', v, rfl, rfl, HS, HD⟩ := hrel
      have hkN := HS.out.le
      obtain ⟨a, ha⟩ : ∃ a, a = lastD [] us := ⟨_, rfl⟩
      have hsz := HS.out.sz
      rw [← ha] at hsz ⊢
      have HA := Lib.hid ha
      have hal : (⟨a.toArray⟩ : ByteArray).size = a.length := str_size a
      have r1 := HD.out.rd
      clear ha
      by_cases hlt : k < N
      · have hltI : (k : Int) < (N : Int) := by omega
        cases h1 : rdN l' a.length with
        | none =>
          have HG1 := Lib.hid h1
          have HDN : Hid (dD l = none) := HS.out.no1 hlt (by rw [← HA.out]; exact h1)
          clear h1
          go_wp2_with fail
          with_reducible refine (num_none_o R 0 P l' a.length _ r1 (by omega) HG1 (by omega)).mono ?_
          rintro e w3 ⟨rfl, m3⟩
          have HD3 := Lib.hid (HD.out.mv m3)
          have r3 := HD3.out.rd
          have c3 := HD3.out.c
          have f3 := HD3.out.f
          have hst : ∀ W, (Instr.slice 9 (.string ⟨a.toArray⟩) none (some (.int .i64 0)) none).run Try.prog W = .ok (.string ⟨#[]⟩) W := fun W => str_to a 0 (Nat.zero_le _) W
          have HRD := Lib.hid (HD3.out.bel (Below.refl _ _).drew).rd
          clear m3 r1 r3 HD
          go_wp2_with fail
          go_region_with (first
            | (go_at_call 37; (with_reducible refine (left_o R 0 P l' 2 _ HRD.out).mono ?_); rintro e w4 ⟨rfl, rfl⟩)
            | (go_at_call 56; (with_reducible refine (rtext_err_o R 0 P l' _ _ HRD.out).mono ?_); rintro e w4 ⟨rfl, rfl⟩))
          go_wp2_with fail
          with_reducible refine (err_o R 0 P l' 2 _ HRD.out).mono ?_
          rintro e w5 ⟨rfl, rfl⟩
          go_wp2_with fail
          have e3 := (HD3.out.fin (.slice none 0 0)).2.1
          exact bodyPost_ret (v := .tuple #[.agg #[.slice none 0 0], .int .i64 2]) (by simp [results, Try.results35, go_sem, e3]) rfl (HN1.out _ _ _ (HD3.out.bel (Below.refl _ _).drew) HDN.out)
        | some p1 =>
          obtain ⟨n1, l1⟩ := p1
          have HG1 := Lib.hid h1
          have hn1 : n1 ≤ a.length := (rdN_some h1).2.1
          have hl1 : l1.length < l'.length := rdN_len h1
          clear h1
          go_wp2_with fail
          with_reducible refine (num_some_o R 0 P l' a.length n1 l1 _ r1 (by omega) HG1 (by omega)).mono ?_
          rintro e w3 ⟨rfl, m3⟩
          have HD3 := Lib.hid (HD.out.mv m3)
          have hst := str_to a n1 hn1
          have HD3d := Lib.hid (HD3.out.bel (Below.refl _ _).drew)
          have c3 := HD3d.out.c
          have f3 := HD3d.out.f
          clear m3 r1 HD HD3
          cases h2 : rdT l1 with
          | none =>
            have HG2 := Lib.hid h2
            have HDN : Hid (dD l = none) := HS.out.no2 hlt (by rw [← HA.out]; exact HG1.out) h2
            clear h2
            go_wp2_with fail
            go_region_with (first
              | (go_at_call 37; (with_reducible refine (left_o R 0 P l1 0 _ HD3d.out.rd).mono ?_); rintro e w4 ⟨rfl, rfl⟩)
              | (go_at_call 56; (with_reducible refine (text_none_o R 0 P l1 _ HD3d.out.rd (by omega) HG2).mono ?_); rintro e w4 ⟨rfl, r4, hr4, m4⟩))
            have HD4 := Lib.hid (HD3d.out.mv m4)
            clear c3 f3 m4
            have c3 := HD4.out.c
            have f3 := HD4.out.f
            go_wp2_with fail
            with_reducible refine (err_o R 0 P r4 2 _ HD4.out.rd).mono ?_
            rintro e w5 ⟨rfl, rfl⟩
            go_wp2_with fail
            have e3 := (HD4.out.fin (.slice none 0 0)).2.1
            exact bodyPost_ret (v := .tuple #[.agg #[.slice none 0 0], .int .i64 2]) (by simp [results, Try.results35, go_sem, e3]) rfl (HN1.out _ _ _ HD4.out HDN.out)
          | some p2 =>
            obtain ⟨t, l2⟩ := p2
            have HG2 := Lib.hid h2
            have hl2 : t.length + l2.length < l1.length := rdT_len h2
            clear h2
            obtain ⟨x, hx⟩ : ∃ x, x = wOf a n1 t := ⟨_, rfl⟩
            have hxl : x.length ≤ 100000 := by rw [hx]; unfold wOf; rw [List.length_append, List.length_take]; omega
            have hsa : (⟨(a.take n1).toArray⟩ : ByteArray) ++ (⟨t.toArray⟩ : ByteArray) = ⟨x.toArray⟩ := by rw [str_app, hx]; rfl
            have z1 : (⟨(a.take n1).toArray⟩ : ByteArray).size ≤ 100000 := by rw [str_size, List.length_take]; omega
            have z2 : (⟨t.toArray⟩ : ByteArray).size ≤ 100000 := by rw [str_size]; omega
            have HST : Hid ((badW (decide (k = 0)) a n1 x = true → dD l = none) ∧ (badW (decide (k = 0)) a n1 x = false → StD l N (k + 1) (us ++ [x]) l2)) := by
              have e := HA.out
              have g1 := HG1.out
              have st := HS.out
              rw [hx]
              rw [e] at g1 ⊢
              exact ⟨fun h => st.no3 hlt g1 HG2.out h, fun h => st.on hlt g1 HG2.out h⟩
            obtain ⟨sa, hsa1⟩ : ∃ sa, sa = (⟨(a.take n1).toArray⟩ : ByteArray) := ⟨_, rfl⟩
            obtain ⟨stt, hst1⟩ : ∃ stt, stt = (⟨t.toArray⟩ : ByteArray) := ⟨_, rfl⟩
            rw [← hsa1] at hst z1 hsa
            rw [← hst1] at z2 hsa
            have KT : Hid (Calls Try.prog 56 #[.pointer (some ⟨R, 0, none⟩), .int .i64 (l1.length : Nat)] w3.drew fun e w' => e = .returned (.string stt) ∧ MvO w3.drew w' R 0 P l2 0) := by rw [hst1]; exact text_some_o R 0 P l1 t l2 _ HD3d.out.rd (by omega) HG2
            clear hx hsa1 hst1
            go_wp2_with fail
            go_region_with (first
              | (go_at_call 37; (with_reducible refine (left_o R 0 P l1 0 _ HD3d.out.rd).mono ?_); rintro e w4 ⟨rfl, rfl⟩)
              | (go_at_call 56; (with_reducible refine KT.out.mono ?_); rintro e w4 ⟨rfl, m4⟩))
            have HD4 := Lib.hid (HD3d.out.mv m4)
            clear c3 f3 m4 KT HD3d
            go_wp2_with fail
            with_reducible refine (err_o R 0 P l2 0 _ HD4.out.rd).mono ?_
            rintro e w5 ⟨rfl, rfl⟩
            have HCM := Lib.hid (common_any a x (by omega) (by omega) w4)
            have hble := bytesLess_eq x a
            obtain ⟨cm, hcmd⟩ : ∃ cm, cm = com a x := ⟨_, rfl⟩
            rw [← hcmd] at HCM
            have HCD := Lib.hid hcmd
            clear hcmd
            by_cases hbad : 0 < k ∧ x ≤ a
            · obtain ⟨hk0, hle⟩ := hbad
              have hkI : (0 : Int) < (k : Int) := by omega
              have hor : (Op.bytesLess x a || x == a) = true := by
                rw [hble]
                rcases le_cases hle with g | g
                · rw [decide_eq_true g]; rfl
                · subst g; simp
              have HDN : Hid (dD l = none) := HST.out.1 (by
                unfold badW
                rw [decide_eq_false (show ¬ k = 0 by omega), decide_eq_true hle]
                rfl)
              have c3 := HD4.out.c
              have f3 := HD4.out.f
              clear hble hle
              go_wp2_with fail
              have e3 := (HD4.out.fin (.slice none 0 0)).2.1
              exact bodyPost_ret (v := .tuple #[.agg #[.slice none 0 0], .int .i64 2]) (by simp [results, Try.results35, go_sem, e3]) rfl (HN1.out _ _ _ HD4.out HDN.out)
            · have HB : Hid (badW (decide (k = 0)) a n1 x = decide (¬ cm = n1)) := by
                show _ = _
                unfold badW
                rw [HCD.out]
                by_cases hk0 : k = 0
                · rw [decide_eq_true hk0]; rfl
                · rw [decide_eq_false hk0, decide_eq_false (fun h => hbad ⟨by omega, h⟩)]; rfl
              have hcase : (¬ (0 : Int) < (k : Int)) ∨ ((0 : Int) < (k : Int) ∧ (Op.bytesLess x a || x == a) = false) := by
                by_cases hk0 : k = 0
                · exact .inl (by omega)
                · have hnle : ¬ x ≤ a := fun h => hbad ⟨by omega, h⟩
                  refine .inr ⟨by omega, ?_⟩
                  rw [hble, decide_eq_false (fun h => hnle (le_of h)), Bool.false_or]
                  exact beq_eq_false_iff_ne.2 fun e => hnle (by rw [e]; exact le_rf a)
              clear hble hbad
              rcases hcase with hkI | ⟨hkI, hor⟩
              all_goals
                go_wp2_with fail
                (with_reducible refine HCM.out.mono ?_)
                rintro e w6 ⟨rfl, q, rfl⟩
                have HD6 := Lib.hid (HD4.out.bel (below_drewN (Below.refl _ _) q))
                by_cases hcn : cm = n1
                · have hne : ((cm : Int) != (n1 : Int)) = false := by rw [hcn]; simp
                  have HSN : Hid (StD l N (k + 1) (us ++ [x]) l2) := HST.out.2 (by rw [HB.out]; exact decide_eq_false fun h => h hcn)
                  obtain ⟨W6, hW6⟩ : ∃ W6, w4.drewN q = W6 := ⟨_, rfl⟩
                  rw [hW6] at HD6 ⊢
                  have HLK : Hid (us.length = k) := HS.out.len
                  have HLJ : Hid ((us ++ [x]).length = k + 1) := by show _ = _; rw [List.length_append, HLK.out]; rfl
                  have hdv := HD6.out.dv
                  obtain ⟨Av, cv, rfl, hcv1, hcv2, _, _⟩ := own_form hdv.r0
                  have cz := hdv.c0
                  have hltz := hdv.lt
                  rw [HLK.out] at cz hcv1
                  have HR6 : Hid (W6.ownsRow (w.heap.size + 1 + 1) 9 1 (.slice Av k cv) k (us.map encStr)) := by have := hdv.r0; rw [HLK.out] at this; exact this
                  have bA : Below W6.heap.size W6 (W6.alloc (.cells #[.string ⟨x.toArray⟩] 9)) := (Below.refl _ _).alloc (Nat.le_refl _) _
                  have HOA := Lib.hid (own_below HR6.out bA)
                  have HCA : Hid (CS (W6.alloc (.cells #[.string ⟨x.toArray⟩] 9)) (W6.heap.size + 1) (some ⟨W6.heap.size, 0, none⟩) (([x] : List B8).map encStr)) := fun _ => ⟨W6.heap.size, 0, rfl, by omega, fun q u hu => by
                    have z := new_cells W6 #[.string ⟨x.toArray⟩] 9 (0, 0) q u hu
                    rwa [add_addr] at z⟩
                  have hsA : w.heap.size + 1 + 1 ≤ (W6.alloc (.cells #[.string ⟨x.toArray⟩] 9)).heap.size := by simp; omega
                  have HDV : Hid (DV W6 (w.heap.size + 1) us (.slice Av k cv)) := by have := hdv; rw [HLK.out] at this; exact this
                  have HDX : Hid (DS w W6 R w.heap.size P l2 us (.slice Av k cv) 0) := by have := HD6.out; rw [HLK.out] at this; exact this
                  unfold maxLen at hcv2
                  clear hdv HD6 HD4 hW6 bA
                  go_wp2_with (first
                    | (at_builtin; refine wpList_appendS _ rfl (.tmp 49) (.tmp 51) rfl (w.heap.size + 1 + 1) _ us k HLK.out rfl HOA.out (some ⟨W6.heap.size, 0, none⟩) 1 1 _ [x] (us ++ [x]) (k + 1) rfl rfl HCA.out rfl HLJ.out (by omega) hsA ?_; intro v7 w7 hown7 hg7; obtain ⟨gg, cap, rfl⟩ := ownsRow_succ hown7; have k7 := (HDV.out.last _ hg7).1; have f7 := (HDV.out.last _ hg7).2.1))
                  rw [List.map_append] at hown7
                  obtain ⟨b8, hv8⟩ := (HDV.out.last _ hg7).2.2 gg cap x (by rw [HLK.out]; exact hown7)
                  rw [HLK.out] at b8 hv8
                  have HD8 := Lib.hid (HDX.out.app b8 hv8)
                  exact ⟨⟨k + 1, us ++ [x], l2, _, by go_num, by unfold lastD; rw [List.getLast?_concat]; rfl, HSN, HD8⟩, by simp [intOf]; omega⟩
                · have hne : ((cm : Int) != (n1 : Int)) = true := by simp; omega
                  have HDN : Hid (dD l = none) := HST.out.1 (by rw [HB.out]; exact decide_eq_true hcn)
                  have c3 := HD6.out.c
                  have f3 := HD6.out.f
                  clear hcn
                  go_wp2_with fail
                  have e3 := (HD6.out.fin (.slice none 0 0)).2.1
                  exact bodyPost_ret (v := .tuple #[.agg #[.slice none 0 0], .int .i64 2]) (by simp [results, Try.results35, go_sem, e3]) rfl (HN1.out _ _ _ HD6.out HDN.out)
      · obtain rfl : k = N := by omega
        have HDN : Hid (dD l = some (us, l')) := HS.out.done
        have hlt' : ¬ (k : Int) < (k : Int) := by omega
        have HLK : Hid (us.length = k) := HS.out.len
        have hdv := HD.out.dv
        obtain ⟨Av, cv, rfl, hcv1, hcv2, _, _⟩ := own_form hdv.r0
        have cz := hdv.c0
        have c3 := HD.out.c
        have f3 := HD.out.f
        rw [HLK.out] at cz hcv1
        have hne : w.heap.size ≠ w.heap.size + 1 := by omega
        clear hdv
        go_wp2_with fail
        with_reducible refine (err_o R 0 P l' 0 _ r1).mono ?_
        rintro e w3 ⟨rfl, rfl⟩
        go_wp2_with fail
        obtain ⟨k1, e3, k2, k3⟩ := HD.out.fin (.slice Av k cv)
        refine bodyPost_ret (v := .tuple #[.agg #[.slice Av k cv], .int .i64 0]) (by simp [results, Try.results35, go_sem, e3]) rfl (.ok HDN.out ⟨Av, k, cv, rfl, ⟨HLK.out.symm, hcv1, hcv2, by omega, ?_⟩, k2, k1⟩)
        rw [HLK.out] at k3
        obtain ⟨A9, c9, e9, _, _, h9, _⟩ := own_form k3
        injection e9 with e91 _ _
        subst e91
        exact h9
end Go.Proofs.Ytgpdpmbgadjooaa
