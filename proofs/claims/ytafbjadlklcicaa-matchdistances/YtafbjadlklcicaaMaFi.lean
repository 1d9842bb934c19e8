/- The law's filter: matches that are let through, without the spans that are dropped. -/
import Derived.Test.YtafbjadlklcicaaMaTo
import Derived.Test.YtafbjadlklcicaaMaIx
import Derived.Laws.EntriesVeiled
import Derived.Deep.DeepCutAuto
namespace Go.Proofs.Ytafbjadlklcicaa
open Go.RowKit
set_option maxRecDepth 100000

/-- A function value that tells t of at most M spans and one more, and leaves what lies there. -/
def FnT (F : Nat) (cb : Array Value) (t : List Sp → Sp → Bool) (M : Nat) (w : World) : Prop :=
  (∀ args W, (callFunc F args).run Try.prog W = .ok (.enter F args) W) ∧
  ∀ W, Below w.heap.size w W → ∀ v l s, SV W W.heap.size v l → l.length ≤ M → Calls Try.prog F (#[v, spV s] ++ cb) W fun e w' => e = .returned (.bool (t l s)) ∧ Below W.heap.size W w'
/-- Matches in a row of their own, whose slices lie elsewhere. -/
structure MF (w0 wr : World) (v : Value) (zs : List (Value × Value)) (ms : List Mt) : Prop where
  own : wr.ownsRow w0.heap.size 60 2 v zs.length (zC zs)
  mz : MZ wr wr.heap.size zs ms
  kb : Below w0.heap.size w0 wr
  ne : ∀ z ∈ zs, At (fun b => some b ≠ v.ownBlock) z.1 ∧ At (fun b => some b ≠ v.ownBlock) z.2
theorem MF.below {w0 wr w' : World} {v : Value} {zs : List (Value × Value)} {ms : List Mt} (h : MF w0 wr v zs ms) (hb : Below wr.heap.size wr w') : MF w0 w' v zs ms :=
  ⟨own_below h.own hb, h.mz.up hb, h.kb.trans (hb.mono h.kb.size), h.ne⟩
theorem MF.lit (w : World) : MF w (w.alloc (.cells #[] 60)) (.slice (some ⟨w.heap.size, 0, none⟩) 0 0) [] [] :=
  ⟨own_lit w _ 2 (0, 0) rfl, MZ.nil _ _, (Below.refl _ _).alloc (Nat.le_refl _) _, fun _ h => by cases h⟩
theorem MF.out {w0 wr : World} {v : Value} {zs : List (Value × Value)} {ms : List Mt} (h : MF w0 wr v zs ms) : ∃ A c, v = .slice A ms.length c ∧ ms.length ≤ c ∧ c ≤ maxLen ∧ MS wr wr.heap.size A ms := by
  obtain ⟨A, c, e, h1, h2, h3, _⟩ := own_form h.own
  rw [h.mz.len] at e h1
  exact ⟨A, c, e, h1, h2, zs, h3, h.mz⟩
theorem MF.app {w0 wr X w4 : World} {v v' : Value} {zs : List (Value × Value)} {ms : List Mt} (h : MF w0 wr v zs ms) (hX : Below wr.heap.size wr X) (z : Value × Value) (m : Mt) (h1 : SV X X.heap.size z.1 m.1) (h2 : SV X X.heap.size z.2 m.2) (f1 : At (fun b => some b ≠ v.ownBlock) z.1) (f2 : At (fun b => some b ≠ v.ownBlock) z.2)
    (hown : w4.ownsRow w0.heap.size 60 2 v' (zs.length + 1) (zC zs ++ [z.1, z.2])) (hg : X.grownBy w4 v.ownBlock) (hv : v'.ownBlock = v.ownBlock ∨ v'.ownBlock = some X.heap.size) : MF w0 w4 v' (zs ++ [z]) (ms ++ [m]) := by
  obtain ⟨_, _, _, _, _, _, hob⟩ := own_form h.own
  have hXs := hX.size
  have h4s := hg.size
  have h0s := h.kb.size
  have nv : ∀ b, b < X.heap.size → some b ≠ v.ownBlock → some b ≠ v'.ownBlock := fun b hb hne e => by
    rcases hv with hv | hv
    · exact hne (by rw [← hv]; exact e)
    · rw [hv] at e
      injection e with e
      omega
  have new : ∀ {u : Value} {l : List Sp}, SV X X.heap.size u l → At (fun b => some b ≠ v.ownBlock) u → SV w4 w4.heap.size u l ∧ At (fun b => some b ≠ v'.ownBlock) u := fun s a =>
    ⟨s.move a fun g g1 g2 => ⟨hg.block g g2 g1, by omega⟩, (At.and a s.lt).imp fun b hb => nv b hb.2 hb.1⟩
  have kb : Below w0.heap.size w0 w4 := (h.kb.trans (hX.mono h.kb.size)).grown hg (by omega) fun k hk => (hob k hk).1
  refine ⟨by rw [List.length_append, zC_app]; exact hown, MZ.app ⟨h.mz.len, fun k k1 k2 => ?_⟩ (MZ.one (new h1 f1).1 (new h2 f2).1), kb, fun y hy => ?_⟩
  · obtain ⟨s1, s2⟩ := h.mz.at_ k k1 k2
    obtain ⟨a1, a2⟩ := h.ne zs[k] (List.getElem_mem k1)
    exact ⟨(new (s1.up hX) a1).1, (new (s2.up hX) a2).1⟩
  · rcases List.mem_append.1 hy with hy | hy
    · obtain ⟨k, hk, rfl⟩ := List.getElem_of_mem hy
      obtain ⟨s1, s2⟩ := h.mz.at_ k hk (by rw [← h.mz.len]; exact hk)
      obtain ⟨a1, a2⟩ := h.ne zs[k] (List.getElem_mem hk)
      exact ⟨(new (s1.up hX) a1).2, (new (s2.up hX) a2).2⟩
    · rw [List.mem_singleton.1 hy]
      exact ⟨(new h1 f1).2, (new h2 f2).2⟩
/-- A match in a box, whose second slice is a row of the call's own. -/
structure XB (w wr : World) (L : Nat) (z t : Value) (n0 : Nat) (l : List Sp) : Prop where
  c0 : wr.cell? ⟨L, 0, none⟩ = some z
  c1 : wr.cell? ⟨L, 1, none⟩ = some t
  f1 : wr.frozen? ⟨L, 1, none⟩ = false
  o0 : wr.ownsRow w.heap.size 26 4 t n0 (spCs l)
  l0 : t.ownBlock ≠ some L
  kb : Below w.heap.size w wr
  hL : w.heap.size ≤ L
theorem XB.step {w wr w' : World} {L : Nat} {z t : Value} {n0 k : Nat} {l x : List Sp} (h : XB w wr L z t n0 l) (p : TP wr w' L 1 w.heap.size t k (l ++ x)) : ∃ t', XB w w' L z t' k (l ++ x) := by
  obtain ⟨t', e1, e2, e3, e4⟩ := p.ex
  exact ⟨t', (p.ce 0 (by omega)).trans h.c0, e1, (p.fr 1).trans h.f1, e2, e4, h.kb.trans p.bl, h.hL⟩
theorem XB.more {w wr w' : World} {L : Nat} {z t : Value} {n0 : Nat} {l : List Sp} (h : XB w wr L z t n0 l) (hb : Below wr.heap.size wr w') : XB w w' L z t n0 l := by
  have hL := World.block_lt_of_cell? wr _ h.c0
  exact ⟨(hb.cell (p := ⟨L, 0, none⟩) hL).trans h.c0, (hb.cell (p := ⟨L, 1, none⟩) hL).trans h.c1, (hb.frozen (p := ⟨L, 1, none⟩) hL).trans h.f1, own_below h.o0 hb, h.l0, h.kb.trans (hb.mono h.kb.size), h.hL⟩
def filM (t : List Sp → Sp → Bool) (m : Mt) : Mt := (m.1, m.2.filter (t m.1))
def filL (P : List Sp → Bool) (t : List Sp → Sp → Bool) (ms : List Mt) : List Mt := (thruL P ms).map (filM t)
theorem filL_snoc (P : List Sp → Bool) (t : List Sp → Sp → Bool) (ms : List Mt) (m : Mt) : filL P t (ms ++ [m]) = filL P t ms ++ cond (P m.1) [filM t m] [] := by
  unfold filL
  rw [thruL_snoc, List.map_append]
  cases P m.1 <;> rfl
theorem filter_snoc' (p : Sp → Bool) (l : List Sp) (k : Nat) (hk : k < l.length) : (l.take (k + 1)).filter p = (l.take k).filter p ++ cond (p l[k]) [l[k]] [] := by
  rw [List.take_succ_eq_append_getElem hk, List.filter_append]
  refine congrArg _ ?_
  cases h : p l[k] <;> simp [h]
set_option maxHeartbeats 4000000 in
theorem filter_any (F1 F2 : Nat) (cb1 cb2 : Array Value) (P : List Sp → Bool) (t : List Sp → Sp → Bool) (A : Option Addr) (n c : Nat) (ms : List Mt) (HN : Hid (n = ms.length)) (hn : n ≤ 10000) (HSM : Hid (∀ m ∈ ms, m.1.length ≤ 1000 ∧ m.2.length ≤ 1000)) (w : World) (h : MS w w.heap.size A ms) (h1 : Hid (FnP F1 cb1 P 1000 w)) (h2 : Hid (FnT F2 cb2 t 1000 w)) :
    Calls Try.prog 11 #[.slice A n c, .func (.func F1) #[] cb1, .func (.func F2) #[] cb2] w fun e w' => ∃ v zs, e = .returned v ∧ MF w w' v zs (filL P t ms) := by
  have HA := Lib.hid h
  have HM0 := Lib.hid (MF.lit w)
  have HC1 := h1.out.1
  have HC2 := h2.out.1
  clear h
  go_enter Try.func11, Try.ntmps11
  go_wp2_with fail
  go_loopw [7, 16] (fun s7 i wr => ∃ (k : Nat) (v : Value) (zs : List (Value × Value)), k ≤ n ∧ i = .int .i64 k ∧ v = s7 ∧ Hid (MF w wr v zs (filL P t (ms.take k)))) (fun _ i _ => n - (intOf i).toNat)
  case atStart => exact ⟨0, _, [], Nat.zero_le _, rfl, rfl, HM0⟩
  case round =>
    obtain ⟨k, v, zs, hk, rfl, rfl, HM⟩ := hrel
    obtain ⟨A4, c4, rfl, hcap4, hmx4, _, _⟩ := own_form HM.out.own
    by_cases hlt : k < n
    · have hkl : k < ms.length := by rw [← HN.out]; exact hlt
      have HLT := Lib.hid hlt
      have HZ : Hid (zs.length ≤ k) := by
        show _ ≤ _
        rw [HM.out.mz.len]
        unfold filL
        rw [List.length_map]
        exact Nat.le_trans (List.length_filter_le _ _) (by rw [List.length_take]; omega)
      obtain ⟨b, o, z0, z1, rfl, hbw, e0, e1, y0, y1⟩ := (HA.out.below HM.out.kb).at_ k hkl
      obtain ⟨S0, d0, rfl, _⟩ := id y0
      obtain ⟨S1, d1, rfl, _⟩ := id y1
      have HSK := HSM.out _ (List.getElem_mem hkl)
      have HX : Hid (filL P t (ms.take (k + 1)) = filL P t (ms.take k) ++ cond (P ms[k].1) [filM t ms[k]] []) := by show _ = _; rw [List.take_succ_eq_append_getElem hkl, filL_snoc]
      obtain ⟨m, hm⟩ : ∃ m, m = ms[k] := ⟨_, rfl⟩
      rw [← hm] at e0 e1 y0 y1 HSK HX
      obtain ⟨l0, hl0⟩ : ∃ l, l = m.1.length := ⟨_, rfl⟩
      obtain ⟨l1, hl1⟩ : ∃ l, l = m.2.length := ⟨_, rfl⟩
      rw [← hl0] at e0 y0 HSK
      rw [← hl1] at e1 y1 HSK
      obtain ⟨X, hX⟩ : ∃ X, wr.alloc (.cells #[.slice S0 l0 d0, .slice S1 l1 d1] 60) = X := ⟨_, rfl⟩
      have bX : Below wr.heap.size wr X := by rw [← hX]; exact (Below.refl _ _).alloc (Nat.le_refl _) _
      have sX : X.heap.size = wr.heap.size + 1 := by rw [← hX]; simp
      obtain ⟨q0, q1⟩ := box2 wr (.slice S0 l0 d0) (.slice S1 l1 d1) 60
      rw [hX] at q0 q1
      have hkb := HM.out.kb.size
      have HYW : Hid (∀ W, Below X.heap.size X W → SV W W.heap.size (.slice S0 l0 d0) m.1 ∧ SV W W.heap.size (.slice S1 l1 d1) m.2 ∧ Below w.heap.size w W) := fun W hW => ⟨((y0.more hkb).up bX).up hW, ((y1.more hkb).up bX).up hW, HM.out.kb.trans ((bX.trans (hW.mono bX.size)).mono hkb)⟩
      have HBO : Hid (∀ W, Below X.heap.size X W → W.cell? ⟨wr.heap.size, 0, none⟩ = some (.slice S0 l0 d0) ∧ W.cell? ⟨wr.heap.size, 1, none⟩ = some (.slice S1 l1 d1)) := fun W hW => ⟨(hW.cell (by rw [sX]; exact Nat.lt_succ_self _)).trans q0, (hW.cell (by rw [sX]; exact Nat.lt_succ_self _)).trans q1⟩
      have HAT : Hid (At (fun b => some b ≠ (Value.slice A4 zs.length c4).ownBlock) (.slice S0 l0 d0)) := y0.lt.imp fun b hb e => by have := (HM.out.own.lt b e.symm).1; omega
      have BRX := Lib.hid (Below.refl X.heap.size X)
      obtain ⟨pb, hpb⟩ : ∃ pb, pb = P m.1 := ⟨_, rfl⟩
      have KP : Hid (Calls Try.prog F1 (#[.slice S0 l0 d0] ++ cb1) X fun e w' => e = .returned (.bool pb) ∧ Below X.heap.size X w') := by
        rw [hpb]
        exact h1.out.2 X (HYW.out X BRX.out).2.2 _ m.1 (HYW.out X BRX.out).1 (by rw [← hl0]; exact HSK.1)
      have HPB := Lib.hid hpb
      have HBX := Lib.hid bX
      have HL0 := Lib.hid hl0
      have HL1 := Lib.hid hl1
      have HXW := Lib.hid hX
      have wk : IntKind.i64.wrap ((k : Int) + 1) = (k : Int) + 1 := by rw [IntKind.wrap_i64]; omega
      clear hX bX hm hl0 hl1 hpb y0 y1 sX
      go_upto_region 5 with fail
      rw [HXW.out]
      clear e0 e1
      go_wp2_with fail
      with_reducible refine KP.out.mono ?_
      rintro e w5 ⟨rfl, b5⟩
      have HB5 := Lib.hid b5
      obtain ⟨p0, p1⟩ := HBO.out w5 b5
      clear q0 q1 b5 KP
      cases pb
      · have HM' : Hid (MF w w5 (.slice A4 zs.length c4) zs (filL P t (ms.take (k + 1)))) := by
          have h := (HM.out.below HBX.out).below HB5.out
          show MF _ _ _ _ _
          rw [HX.out, ← HPB.out]
          simpa using h
        go_wp2_with fail
        exact ⟨⟨k + 1, _, zs, HLT.out, by go_num, rfl, HM'⟩, by have := HLT.out; simp [intOf]; omega⟩
      · obtain ⟨L, hL⟩ : ∃ L, L = zs.length := ⟨_, rfl⟩
        rw [← hL] at HM HZ HAT ⊢
        have HL := Lib.hid hL
        have hLk := HZ.out
        obtain ⟨Y, hY⟩ : ∃ Y, w5.alloc (.cells #[.slice S0 l0 d0, .slice none 0 0] 60) = Y := ⟨_, rfl⟩
        have bY : Below w5.heap.size w5 Y := by rw [← hY]; exact (Below.refl _ _).alloc (Nat.le_refl _) _
        obtain ⟨g0, g1⟩ := box2 w5 (.slice S0 l0 d0) (.slice none 0 0) 60
        rw [hY] at g0 g1
        have gf : Y.frozen? ⟨w5.heap.size, 1, none⟩ = false := by rw [← hY]; simp
        have HXB0 : Hid (XB w5 Y w5.heap.size (.slice S0 l0 d0) (.slice none 0 0) 0 ((m.2.take 0).filter (t m.1))) := ⟨g0, g1, gf, World.ownsRow_nil _ _ _ _, by simp [Value.ownBlock], bY, Nat.le_refl _⟩
        have HY := Lib.hid hY
        obtain ⟨D, hD⟩ : ∃ D, D = w5.heap.size := ⟨_, rfl⟩
        rw [← hD] at HXB0
        have HDe := Lib.hid hD
        clear hL hY bY g0 g1 gf hD
        go_upto_region 7 with fail
        rw [HY.out, ← HDe.out]
        obtain ⟨p0, p1⟩ := HBO.out Y (HB5.out.trans (HXB0.out.kb.mono HB5.out.size))
        go_wp2_with fail
        go_loopw [31] (fun i wr => ∃ (j : Nat) (u : Value) (nu : Nat), j ≤ l1 ∧ i = .int .i64 j ∧ nu ≤ j ∧ Hid (XB w5 wr D (.slice S0 l0 d0) u nu ((m.2.take j).filter (t m.1)))) (fun i _ => l1 - (intOf i).toNat)
        case atStart => exact ⟨0, _, 0, Nat.zero_le _, rfl, Nat.le_refl _, HXB0⟩
        case round =>
          obtain ⟨j, u, nu, hj, rfl, hnu, HXB⟩ := hrel
          have bXr := HB5.out.trans (HXB.out.kb.mono HB5.out.size)
          obtain ⟨p0, p1⟩ := HBO.out wr bXr
          have HBR := Lib.hid bXr
          by_cases hjl : j < l1
          · have hjm : j < m.2.length := by rw [← HL1.out]; exact hjl
            have HJL := Lib.hid hjl
            obtain ⟨b2, o2, hS1, hb2, hc⟩ := (HYW.out wr bXr).2.1.cs.2 (by rw [spCs_len]; omega)
            subst hS1
            obtain ⟨c0, c1, c2, c3⟩ := spCs_at m.2 j hjm
            have e0 := hc _ _ c0
            have e1 := hc _ _ c1
            have e2 := hc _ _ c2
            have e3 := hc _ _ c3
            rw [← Nat.add_assoc] at e1 e2 e3
            have HFS : Hid ((m.2.take (j + 1)).filter (t m.1) = (m.2.take j).filter (t m.1) ++ cond (t m.1 m.2[j]) [m.2[j]] []) := filter_snoc' _ _ _ hjm
            obtain ⟨sp, hsp⟩ : ∃ sp, sp = m.2[j] := ⟨_, rfl⟩
            rw [← hsp] at e0 e1 e2 e3 HFS
            obtain ⟨tb, htb⟩ : ∃ tb, tb = t m.1 sp := ⟨_, rfl⟩
            rw [← htb] at HFS
            obtain ⟨Z, hZ⟩ : ∃ Z, wr.alloc (.cells #[.int .i64 sp.1, .int .i64 sp.2.1, .int .i64 sp.2.2.1, .int .i64 sp.2.2.2] 26) = Z := ⟨_, rfl⟩
            have bZ : Below wr.heap.size wr Z := by rw [← hZ]; exact (Below.refl _ _).alloc (Nat.le_refl _) _
            have zz : ∀ j u, [Value.int .i64 sp.1, .int .i64 sp.2.1, .int .i64 sp.2.2.1, .int .i64 sp.2.2.2][j]? = some u → Z.cell? ⟨wr.heap.size, j, none⟩ = some u := fun j u hu => by
              have := new_cells wr #[.int .i64 sp.1, .int .i64 sp.2.1, .int .i64 sp.2.2.1, .int .i64 sp.2.2.2] 26 (0, 0) j u hu
              rw [add_addr, hZ, Nat.zero_add] at this
              exact this
            have bXZ := bXr.trans (bZ.mono bXr.size)
            obtain ⟨q0, q1⟩ := HBO.out Z bXZ
            have KT : Hid (Calls Try.prog F2 (#[.slice S0 l0 d0, spV sp] ++ cb2) Z fun e w' => e = .returned (.bool tb) ∧ Below Z.heap.size Z w') := by
              rw [htb]
              exact h2.out.2 Z (HYW.out Z bXZ).2.2 _ m.1 sp (HYW.out Z bXZ).1 (by rw [← HL0.out]; exact HSK.1)
            have HXBZ := Lib.hid (HXB.out.more bZ)
            have x0 := zz 0 _ rfl
            have x1 := zz 1 _ rfl
            have x2 := zz 2 _ rfl
            have x3 := zz 3 _ rfl
            have HZ' := Lib.hid hZ
            have wj : IntKind.i64.wrap ((j : Int) + 1) = (j : Int) + 1 := by rw [IntKind.wrap_i64]; omega
            obtain ⟨kl, hkl'⟩ : ∃ kl, kl = (m.2.take j).filter (t m.1) := ⟨_, rfl⟩
            rw [← hkl'] at HFS HXBZ
            clear hc c0 c1 c2 c3 hsp htb hZ bZ zz bXZ hkl' bXr hb2 hjm
            obtain ⟨sf, st, spp, sw⟩ := sp
            simp only at e0 e1 e2 e3 x0 x1 x2 x3 HZ' KT
            unfold spV at KT
            simp only at KT
            go_upto_region 10 with fail
            rw [HZ'.out]
            clear e0 e1 e2 e3 p0 p1
            go_wp2_with fail
            with_reducible refine KT.out.mono ?_
            rintro e w6 ⟨rfl, b6⟩
            have HXB6 := Lib.hid (HXBZ.out.more b6)
            have y0 := (b6.cell (World.block_lt_of_cell? Z _ x0)).trans x0
            have y1 := (b6.cell (World.block_lt_of_cell? Z _ x1)).trans x1
            have y2 := (b6.cell (World.block_lt_of_cell? Z _ x2)).trans x2
            have y3 := (b6.cell (World.block_lt_of_cell? Z _ x3)).trans x3
            have HBZ6 := Lib.hid b6
            clear b6 x0 x1 x2 x3 q0 q1 KT
            cases tb
            · have HX' : Hid (XB w5 w6 D (.slice S0 l0 d0) u nu ((m.2.take (j + 1)).filter (t m.1))) := by show XB _ _ _ _ _ _ _; rw [HFS.out]; simpa using HXB6.out
              go_wp2_with fail
              exact ⟨⟨j + 1, u, nu, HJL.out, by go_num, by omega, HX'⟩, by have := HJL.out; simp [intOf]; omega⟩
            · obtain ⟨r0, r1, rf, ro, rl, rk, rL⟩ := id HXB6.out
              have HRO := Lib.hid ro
              have HRL := Lib.hid rl
              have HRK := Lib.hid (And.intro rk rL)
              have hDw : D < w6.heap.size := World.block_lt_of_cell? w6 _ r1
              obtain ⟨V, hV⟩ : ∃ V, w6.alloc (.cells #[.int .i64 sf, .int .i64 st, .int .i64 spp, .int .i64 sw] 26) = V := ⟨_, rfl⟩
              have bV : Below w6.heap.size w6 V := by rw [← hV]; exact (Below.refl _ _).alloc (Nat.le_refl _) _
              have HCN : Hid (CS V V.heap.size (some ⟨w6.heap.size, 0, none⟩) (spCs [(sf, st, spp, sw)])) := by
                have h := cells_new w6 #[.int .i64 sf, .int .i64 st, .int .i64 spp, .int .i64 sw] 26 V.heap.size (by rw [← hV]; simp)
                rw [hV] at h
                exact h
              have HOV := Lib.hid (own_below ro bV)
              have HCV : Hid (V.cell? ⟨D, 1, none⟩ = some u ∧ V.frozen? ⟨D, 1, none⟩ = false) := ⟨(bV.cell (p := ⟨D, 1, none⟩) hDw).trans r1, (bV.frozen (p := ⟨D, 1, none⟩) hDw).trans rf⟩
              have hDV : D < V.heap.size := Nat.lt_of_lt_of_le hDw bV.size
              have hbs : w5.heap.size ≤ V.heap.size := Nat.le_trans rk.size bV.size
              have hl1b : l1 ≤ 1000 := HSK.2
              have HV := Lib.hid hV
              have HBV := Lib.hid bV
              clear ro rl rk rL hV bV r0 rf
              go_wp2_with (at_builtin; (rw [HV.out]; refine wpList_appR elSp V rfl (.tmp 41) (.tmp 43) rfl w5.heap.size u nu (spCs kl) rfl HOV.out (some ⟨w6.heap.size, 0, none⟩) 1 1 V.heap.size (spCs [(sf, st, spp, sw)]) rfl rfl (spCs_one _) HCN.out (nu + 1) rfl (by omega) hbs ?_; intro v7 w7 hown7 hg7 hv7; obtain ⟨A7, c7, rfl, _⟩ := own_form hown7; have k7 := (hg7.cell_far ⟨D, 1, none⟩ (by simp; omega) (fun e => HRL.out e.symm)).trans HCV.out.1; have f7 := (hg7.frozen_far ⟨D, 1, none⟩ (by simp; omega) (fun e => HRL.out e.symm)).trans HCV.out.2; have HTP := Lib.hid (TP.of HBV.out hg7 (by rw [spCs_app]; exact hown7) hv7 HRL.out hDw k7 HRK.out.1.size HRK.out.2 (fun b hb => (HRO.out.lt b hb).1)); clear hown7 hg7 hv7))
              obtain ⟨u', HX7⟩ := HXB6.out.step HTP.out
              have HX' : Hid (XB w5 (w7.setCell ⟨D, 1, none⟩ (.slice A7 (nu + 1) c7)) D (.slice S0 l0 d0) u' (nu + 1) ((m.2.take (j + 1)).filter (t m.1))) := by show XB _ _ _ _ _ _ _; rw [HFS.out]; exact HX7
              exact ⟨⟨j + 1, u', nu + 1, HJL.out, by go_num, by omega, HX'⟩, by have := HJL.out; simp [intOf]; omega⟩
          · obtain rfl : j = l1 := by omega
            have HKE : Hid ((m.2.take j).filter (t m.1) = (filM t m).2) := by show _ = _; rw [List.take_of_length_le (by rw [HL1.out]; exact Nat.le_refl _)]; rfl
            obtain ⟨r0, r1, rf, ro, rl, rk, rL⟩ := id HXB.out
            have hlen : nu = (filM t m).2.length := by have := ro.1; rw [spCs_len, HKE.out] at this; omega
            obtain ⟨U, cu, ev, _⟩ := own_form ro
            subst ev
            obtain ⟨V, hV⟩ : ∃ V, wr.alloc (.cells #[.slice S0 l0 d0, .slice U nu cu] 60) = V := ⟨_, rfl⟩
            have bV : Below wr.heap.size wr V := by rw [← hV]; exact (Below.refl _ _).alloc (Nat.le_refl _) _
            have HCN : Hid (CS V V.heap.size (some ⟨wr.heap.size, 0, none⟩) [.slice S0 l0 d0, .slice U nu cu]) := by
              have h := cells_new wr #[.slice S0 l0 d0, .slice U nu cu] 60 V.heap.size (by rw [← hV]; simp)
              rw [hV] at h
              exact h
            have bXV := bXr.trans (bV.mono bXr.size)
            have hwrX := HBX.out.size
            have bwV := HBX.out.trans (bXV.mono hwrX)
            have hMl : w.heap.size ≤ V.heap.size := (HYW.out V bXV).2.2.size
            have HOY := Lib.hid (own_below HM.out.own bwV)
            have hAU : At (fun b => some b ≠ (Value.slice A4 L c4).ownBlock) (.slice U nu cu) := fun a n' c' e _ e2 => by
              injection e with e _ _
              have h1 := (ro.lt a.block (by rw [e]; rfl)).1
              have h2 := (HM.out.own.lt a.block e2.symm).2
              have := HB5.out.size
              omega
            have hsU : SV V V.heap.size (.slice U nu cu) (filM t m).2 := (SV.own (by rw [← HKE.out]; exact ro) hlen).up bV
            have HAPP : Hid (∀ v7 w7, w7.ownsRow w.heap.size 60 2 v7 (L + 1) (zC zs ++ [.slice S0 l0 d0, .slice U nu cu]) → V.grownBy w7 (Value.slice A4 L c4).ownBlock → (v7.ownBlock = (Value.slice A4 L c4).ownBlock ∨ v7.ownBlock = some V.heap.size) → MF w w7 v7 (zs ++ [(.slice S0 l0 d0, .slice U nu cu)]) (filL P t (ms.take (k + 1)))) := fun v7 w7 hown hg hv => by
              have h := HM.out.app bwV (.slice S0 l0 d0, .slice U nu cu) (filM t m) (HYW.out V bXV).1 hsU HAT.out hAU (by rw [← HL.out]; exact hown) hg hv
              rw [HX.out, ← HPB.out]
              exact h
            have HV := Lib.hid hV
            rw [← HL.out] at HOY
            clear ro rl rk rL hV bV rf hlen hwrX bwV bXV hAU hsU bXr
            go_wp2_with (at_builtin; (rw [HV.out]; refine wpList_appR elMt V rfl (.tmp 47) (.tmp 49) rfl w.heap.size (.slice A4 L c4) L (zC zs) rfl HOY.out (some ⟨wr.heap.size, 0, none⟩) 1 1 V.heap.size [.slice S0 l0 d0, .slice U nu cu] rfl rfl (fun u hu => by simp at hu; rcases hu with rfl | rfl <;> rfl) HCN.out (L + 1) rfl (by omega) hMl ?_; intro v7 w7 hown7 hg7 hv7; have HM7 := Lib.hid (HAPP.out v7 w7 hown7 hg7 hv7); clear hown7 hg7 hv7))
            exact ⟨⟨k + 1, v7, _, HLT.out, by go_num, rfl, HM7⟩, by have := HLT.out; simp [intOf]; omega⟩
    · obtain rfl : k = n := by omega
      have HF : Hid (MF w wr (.slice A4 zs.length c4) zs (filL P t ms)) := by have h := HM.out; rw [List.take_of_length_le (by rw [HN.out]; exact Nat.le_refl _)] at h; exact h
      go_wp2_with fail
      go_ret
      exact ⟨_, _, rfl, HF.out⟩
end Go.Proofs.Ytafbjadlklcicaa
