/- MatchMild answers true, by what covering leaves. -/
import Derived.Test.YtcgoeokocabelaaMaMi
namespace Go.Proofs.Ytcgoeokocabelaa
open Go.RowKit
set_option maxRecDepth 100000

/-- Matches that are kept as they lay, in a row of the call's own. -/
structure WL (w wr : World) (v : Value) (zs : List (Value × Value)) (l : List Mt) : Prop where
  own : wr.ownsRow w.heap.size 34 2 v zs.length (zC zs)
  mz : ∀ W, Below w.heap.size w W → MZ W W.heap.size zs l
  kb : Below w.heap.size w wr
theorem WL.up {w wr w' : World} {v : Value} {zs : List (Value × Value)} {l : List Mt} (h : WL w wr v zs l) (hb : Below wr.heap.size wr w') : WL w w' v zs l := ⟨own_below h.own hb, h.mz, h.kb.trans (hb.mono h.kb.size)⟩
theorem WL.ms {w wr : World} {v : Value} {zs : List (Value × Value)} {l : List Mt} (h : WL w wr v zs l) : ∃ A c, v = .slice A l.length c ∧ MS wr wr.heap.size A l := by
  obtain ⟨A, c, e, _, _, h3, _⟩ := own_form h.own
  have hz := h.mz wr h.kb
  rw [hz.len] at e
  exact ⟨A, c, e, zs, h3, hz⟩
theorem mildP_def (ns : List Mt) (l : List Sp) : mildP ns l = !(l.any fun s => (ns.flatMap (·.1)).any (rnd s)) := rfl
theorem flat_snoc (ns : List Mt) (k : Nat) (hk : k < ns.length) : (ns.take (k + 1)).flatMap (·.1) = (ns.take k).flatMap (·.1) ++ ns[k].1 := by
  rw [List.take_succ_eq_append_getElem hk, List.flatMap_append]
  simp
set_option maxHeartbeats 4000000 in
theorem mm_no (A0 A1 : Option Addr) (n0 c0 n1 c1 : Nat) (ms ns : List Mt) (H : Hid (n0 = ms.length ∧ n1 = ns.length)) (l0 : n0 ≤ 9223372036854775807) (l1 : n1 ≤ 9223372036854775807) (HG : Hid ((goodB ms 30 && goodB ns 30) = false)) (w : World) (h0 : MS w w.heap.size A0 ms) (h1 : MS w w.heap.size A1 ns) :
    Calls Try.prog 4 #[.slice A0 n0 c0, .slice A1 n1 c1] w fun e w' => e = .returned (.bool true) ∧ Below w.heap.size w w' := by
  have K0 : Hid (∀ W, Below w.heap.size w W → Calls Try.prog 14 #[.slice A0 n0 c0, .int .i64 30] W fun e w' => e = .returned (.bool (goodB ms 30)) ∧ Below w.heap.size w w') := fun W hW => (good_any A0 n0 c0 ms 30 H.out.1 l0 W (h0.up hW)).mono fun e w' h => ⟨h.1, hW.trans (h.2.mono hW.size)⟩
  have K1 : Hid (∀ W, Below w.heap.size w W → Calls Try.prog 14 #[.slice A1 n1 c1, .int .i64 30] W fun e w' => e = .returned (.bool (goodB ns 30)) ∧ Below w.heap.size w w') := fun W hW => (good_any A1 n1 c1 ns 30 H.out.2 l1 W (h1.up hW)).mono fun e w' h => ⟨h.1, hW.trans (h.2.mono hW.size)⟩
  obtain ⟨g0, hg0⟩ : ∃ g, g = goodB ms 30 := ⟨_, rfl⟩
  obtain ⟨g1, hg1⟩ : ∃ g, g = goodB ns 30 := ⟨_, rfl⟩
  rw [← hg0] at K0 HG
  rw [← hg1] at K1 HG
  clear h0 h1 hg0 hg1
  go_enter Try.func4, Try.ntmps4
  go_wp2_with fail
  with_reducible refine (head_any w).mono ?_
  rintro e w1 ⟨rfl, b1⟩
  have B1 := Lib.hid b1
  clear b1
  cases g0
  · go_wp2_with (first
      | (go_at_call 14; (with_reducible refine (K0.out _ B1.out).mono ?_); rintro e w2 ⟨rfl, b2⟩; have B2 := Lib.hid b2; clear b2))
    go_ret
    exact ⟨rfl, B2.out⟩
  · cases g1
    · go_wp2_with (first
        | (go_at_call 14; (with_reducible refine (K0.out _ B1.out).mono ?_); rintro e w2 ⟨rfl, b2⟩; have B2 := Lib.hid b2; clear b2)
        | (go_at_call 14; (with_reducible refine (K1.out _ B2.out).mono ?_); rintro e w3 ⟨rfl, b3⟩; have B3 := Lib.hid b3; clear b3))
      go_ret
      exact ⟨rfl, B3.out⟩
    · cases HG.out
set_option maxHeartbeats 16000000 in
theorem mm_yes (A0 A1 : Option Addr) (n0 c0 n1 c1 : Nat) (ms ns : List Mt) (H : Hid (n0 = ms.length ∧ n1 = ns.length)) (HG : Hid (goodB ms 30 = true ∧ goodB ns 30 = true)) (w : World) (h0 : MS w w.heap.size A0 ms) (h1 : MS w w.heap.size A1 ns)
    (hcov : Hid (∀ W, Below w.heap.size w W → Calls Try.prog 57 #[.slice A1 n1 c1] W (CovQ W ns))) :
    Calls Try.prog 4 #[.slice A0 n0 c0, .slice A1 n1 c1] w fun e w' => e = .returned (.bool true) ∧ Below w.heap.size w w' := by
  obtain ⟨g0, gl0⟩ := good_sm HG.out.1
  obtain ⟨g1, gl1⟩ := good_sm HG.out.2
  have l0 : n0 ≤ 30 := by have := H.out.1; omega
  have l1 : n1 ≤ 30 := by have := H.out.2; omega
  have HS0 : Hid (∀ m ∈ ms, m.1.length ≤ 5 ∧ m.2.length ≤ 5) := g0
  have HS1 : Hid (∀ m ∈ ns, m.1.length ≤ 5 ∧ m.2.length ≤ 5) := g1
  have HSM : Hid (smM ms) := fun m hm => by have := g0 m hm; omega
  have K0 : Hid (∀ W, Below w.heap.size w W → Calls Try.prog 14 #[.slice A0 n0 c0, .int .i64 30] W fun e w' => e = .returned (.bool true) ∧ Below w.heap.size w w') := fun W hW => (good_any A0 n0 c0 ms 30 H.out.1 (by omega) W (h0.up hW)).mono fun e w' h => ⟨by rw [← HG.out.1]; exact h.1, hW.trans (h.2.mono hW.size)⟩
  have K1 : Hid (∀ W, Below w.heap.size w W → Calls Try.prog 14 #[.slice A1 n1 c1, .int .i64 30] W fun e w' => e = .returned (.bool true) ∧ Below w.heap.size w w') := fun W hW => (good_any A1 n1 c1 ns 30 H.out.2 (by omega) W (h1.up hW)).mono fun e w' h => ⟨by rw [← HG.out.2]; exact h.1, hW.trans (h.2.mono hW.size)⟩
  have HA0 := Lib.hid h0
  have HA1 := Lib.hid h1
  clear h0 h1 g0 g1 gl0 gl1
  go_enter Try.func4, Try.ntmps4
  go_wp2_with fail
  with_reducible refine (head_any w).mono ?_
  rintro e w1 ⟨rfl, b1⟩
  have B1 := Lib.hid b1
  clear b1
  go_upto_region 5 with (first
    | (go_at_call 14; (with_reducible refine (K0.out _ B1.out).mono ?_); rintro e w2 ⟨rfl, b2⟩; have B2 := Lib.hid b2; clear b2)
    | (go_at_call 14; (with_reducible refine (K1.out _ B2.out).mono ?_); rintro e w3 ⟨rfl, b3⟩; have B3 := Lib.hid b3; clear b3))
  have HW0 : Hid (WL w (w3.alloc (.cells #[] 34)) (.slice (some ⟨w3.heap.size, 0, none⟩) 0 0) [] (thruL (mildP ns) (ms.take 0))) :=
    ⟨own_le (own_lit w3 _ 2 (0, 0) rfl) B3.out.size, fun W _ => MZ.nil _ _, B3.out.alloc B3.out.size _⟩
  go_wp2_with fail
  go_loopw [5, 28] (fun s5 i wr => ∃ (k : Nat) (v : Value) (zs : List (Value × Value)), k ≤ n0 ∧ i = .int .i64 k ∧ v = s5 ∧ Hid (WL w wr v zs (thruL (mildP ns) (ms.take k)))) (fun _ i _ => n0 - (intOf i).toNat)
  case atStart => exact ⟨0, _, [], Nat.zero_le _, rfl, rfl, HW0⟩
  case round =>
    obtain ⟨k, v, zs, hk, rfl, rfl, HWL⟩ := hrel
    obtain ⟨AV, cV, rfl, _, _, _, _⟩ := own_form HWL.out.own
    by_cases hlt : k < n0
    · have hkl : k < ms.length := by rw [← H.out.1]; exact hlt
      have HLT := Lib.hid hlt
      obtain ⟨b, o, z0, z1, rfl, hb, e0, e1, y0, y1⟩ := (HA0.out.below HWL.out.kb).at_ k hkl
      obtain ⟨S0, d0, rfl, _⟩ := id y0
      obtain ⟨S1, d1, rfl, _⟩ := id y1
      have HX : Hid (thruL (mildP ns) (ms.take (k + 1)) = thruL (mildP ns) (ms.take k) ++ cond (mildP ns ms[k].1) [ms[k]] []) := by show _ = _; rw [List.take_succ_eq_append_getElem hkl, thruL_snoc]
      have hsz := HS0.out _ (List.getElem_mem hkl)
      have HZ : Hid (zs.length ≤ k) := by
        show _ ≤ _
        rw [(HWL.out.mz w (Below.refl _ _)).len]
        exact Nat.le_trans (List.length_filter_le _ _) (by rw [List.length_take]; omega)
      obtain ⟨m, hm⟩ : ∃ m, m = ms[k] := ⟨_, rfl⟩
      rw [← hm] at e0 e1 y0 y1 HX hsz
      obtain ⟨m0, hm0⟩ : ∃ l, l = m.1.length := ⟨_, rfl⟩
      obtain ⟨m1, hm1⟩ : ∃ l, l = m.2.length := ⟨_, rfl⟩
      rw [← hm0] at e0 y0 hsz
      rw [← hm1] at e1 y1 hsz
      have HYW : Hid (∀ W, Below w.heap.size w W → SV W W.heap.size (.slice S0 m0 d0) m.1 ∧ SV W W.heap.size (.slice S1 m1 d1) m.2) := fun W hW =>
        ⟨(y0.move y0.lt fun g g1 _ => ⟨(hW.block g g1).trans (HWL.out.kb.block g g1).symm, by have := hW.size; omega⟩), (y1.move y1.lt fun g g1 _ => ⟨(hW.block g g1).trans (HWL.out.kb.block g g1).symm, by have := hW.size; omega⟩)⟩
      obtain ⟨X, hX⟩ : ∃ X, wr.alloc (.cells #[.slice S0 m0 d0, .slice S1 m1 d1] 34) = X := ⟨_, rfl⟩
      have bX : Below wr.heap.size wr X := by rw [← hX]; exact (Below.refl _ _).alloc (Nat.le_refl _) _
      obtain ⟨q0, q1⟩ := box2 wr (.slice S0 m0 d0) (.slice S1 m1 d1) 34
      rw [hX] at q0 q1
      obtain ⟨D, hD⟩ : ∃ D, D = wr.heap.size := ⟨_, rfl⟩
      rw [← hD] at q0 q1
      have HBX := Lib.hid (HWL.out.kb.trans (bX.mono HWL.out.kb.size))
      have HK7 : Hid (∀ W, Below X.heap.size X W → W.cell? ⟨D, 0, none⟩ = some (.slice S0 m0 d0) ∧ W.cell? ⟨D, 1, none⟩ = some (.slice S1 m1 d1)) := fun W hW => ⟨(hW.cell (World.block_lt_of_cell? X _ q0)).trans q0, (hW.cell (World.block_lt_of_cell? X _ q1)).trans q1⟩
      have HM0 := Lib.hid hm0
      have HM1 := Lib.hid hm1
      have HXW := Lib.hid hX
      have HDE := Lib.hid hD
      have HWX := Lib.hid (HWL.out.up bX)
      have BRX := Lib.hid (Below.refl X.heap.size X)
      clear hX bX hm hm0 hm1 hb y0 y1 hD
      go_upto_region 9 with fail
      rw [← HDE.out, HXW.out]
      go_wp2_with fail
      clear q0 q1 e0 e1
      go_loopw [8, 35] (fun s8 i wr => ∃ j : Nat, j ≤ m0 ∧ i = .int .i64 j ∧ s8 = .bool (!((m.1.take j).any fun s => (ns.flatMap (·.1)).any (rnd s))) ∧ Hid (Below X.heap.size X wr)) (fun _ i _ => m0 - (intOf i).toNat)
      case atStart => exact ⟨0, Nat.zero_le _, rfl, rfl, BRX⟩
      case round =>
        obtain ⟨j, hj, rfl, rfl, HB2⟩ := hrel
        by_cases hlj : j < m0
        · have hjl : j < m.1.length := by rw [← HM0.out]; exact hlj
          have HLJ := Lib.hid hlj
          have bwr := HBX.out.trans (HB2.out.mono HBX.out.size)
          obtain ⟨b2, o2, hS2, _, hc⟩ := ((HYW.out wr bwr).1.cs).2 (by rw [spCs_len]; omega)
          obtain ⟨c0', c1', c2', c3'⟩ := spCs_at m.1 j hjl
          have e0 := hc _ _ c0'
          have e1 := hc _ _ c1'
          have e2 := hc _ _ c2'
          have e3 := hc _ _ c3'
          rw [← Nat.add_assoc] at e1 e2 e3
          have HS2 : Hid (((m.1.take (j + 1)).any fun s => (ns.flatMap (·.1)).any (rnd s)) = (((m.1.take j).any fun s => (ns.flatMap (·.1)).any (rnd s)) || (ns.flatMap (·.1)).any (rnd m.1[j]))) := any_snoc' _ m.1 j hjl
          obtain ⟨sp, hsp⟩ : ∃ sp, sp = m.1[j] := ⟨_, rfl⟩
          rw [← hsp] at e0 e1 e2 e3 HS2
          obtain ⟨ok2, hok2⟩ : ∃ ok2, ok2 = !((m.1.take j).any fun s => (ns.flatMap (·.1)).any (rnd s)) := ⟨_, rfl⟩
          rw [← hok2]
          have HOK2 := Lib.hid hok2
          obtain ⟨sf, st, spp, sw⟩ := sp
          simp only at e0 e1 e2 e3
          obtain ⟨Y, hY⟩ : ∃ Y, wr.alloc (.cells #[.int .i64 sf, .int .i64 st, .int .i64 spp, .int .i64 sw] 38) = Y := ⟨_, rfl⟩
          have bY : Below wr.heap.size wr Y := by rw [← hY]; exact (Below.refl _ _).alloc (Nat.le_refl _) _
          obtain ⟨E, hE⟩ : ∃ E, E = wr.heap.size := ⟨_, rfl⟩
          have zz : ∀ j u, [Value.int .i64 sf, .int .i64 st, .int .i64 spp, .int .i64 sw][j]? = some u → Y.cell? ⟨E, j, none⟩ = some u := fun j u hu => by
            have := new_cells wr #[.int .i64 sf, .int .i64 st, .int .i64 spp, .int .i64 sw] 38 (0, 0) j u hu
            rw [add_addr, hY, Nat.zero_add, ← hE] at this
            exact this
          have HKE : Hid (∀ W, Below Y.heap.size Y W → W.cell? ⟨E, 0, none⟩ = some (.int .i64 sf) ∧ W.cell? ⟨E, 1, none⟩ = some (.int .i64 st)) := fun W hW => ⟨(hW.cell (World.block_lt_of_cell? Y _ (zz 0 _ rfl))).trans (zz 0 _ rfl), (hW.cell (World.block_lt_of_cell? Y _ (zz 1 _ rfl))).trans (zz 1 _ rfl)⟩
          have HBY := Lib.hid (HB2.out.trans (bY.mono HB2.out.size))
          have BRY := Lib.hid (Below.refl Y.heap.size Y)
          have HY := Lib.hid hY
          have HEE := Lib.hid hE
          have wj : IntKind.i64.wrap ((j : Int) + 1) = (j : Int) + 1 := by rw [IntKind.wrap_i64]; omega
          rw [hS2]
          rw [hS2] at HYW HK7
          clear hc c0' c1' c2' c3' hok2 hY bY zz hE bwr hsp hjl
          go_upto_region 13 with fail
          rw [← HEE.out, HY.out]
          go_wp2_with fail
          clear e0 e1 e2 e3
          go_loopw [8, 41] (fun s8 i wr => ∃ a : Nat, a ≤ n1 ∧ i = .int .i64 a ∧ s8 = .bool (ok2 && !(((ns.take a).flatMap (·.1)).any (rnd (sf, st, spp, sw)))) ∧ Hid (Below Y.heap.size Y wr)) (fun _ i _ => n1 - (intOf i).toNat)
          case atStart => exact ⟨0, Nat.zero_le _, rfl, by simp, BRY⟩
          case round =>
            obtain ⟨a, ha, rfl, rfl, HB3⟩ := hrel
            by_cases hla : a < n1
            · have hal : a < ns.length := by rw [← H.out.2]; exact hla
              have HLA := Lib.hid hla
              have bwr := HBX.out.trans (HBY.out.mono HBX.out.size)
              have bw3 := bwr.trans (HB3.out.mono bwr.size)
              obtain ⟨b3, o3, w0', w1', rfl, hb3, u0, u1, x0, x1⟩ := (HA1.out.below bw3).at_ a hal
              obtain ⟨T0, f0, rfl, _⟩ := id x0
              obtain ⟨T1, f1, rfl, _⟩ := id x1
              have HF3 : Hid ((ns.take (a + 1)).flatMap (·.1) = (ns.take a).flatMap (·.1) ++ ns[a].1) := flat_snoc ns a hal
              obtain ⟨om, hom⟩ : ∃ om, om = ns[a] := ⟨_, rfl⟩
              have hos := HS1.out _ (List.getElem_mem hal)
              rw [← hom] at u0 u1 x0 x1 HF3 hos
              obtain ⟨p0, hp0⟩ : ∃ l, l = om.1.length := ⟨_, rfl⟩
              obtain ⟨p1, hp1⟩ : ∃ l, l = om.2.length := ⟨_, rfl⟩
              rw [← hp0] at u0 x0 hos
              rw [← hp1] at u1 x1
              obtain ⟨ok3, hok3⟩ : ∃ ok3, ok3 = (ok2 && !(((ns.take a).flatMap (·.1)).any (rnd (sf, st, spp, sw)))) := ⟨_, rfl⟩
              rw [← hok3]
              obtain ⟨Z, hZ⟩ : ∃ Z, wr.alloc (.cells #[.slice T0 p0 f0, .slice T1 p1 f1] 34) = Z := ⟨_, rfl⟩
              have bZ : Below wr.heap.size wr Z := by rw [← hZ]; exact (Below.refl _ _).alloc (Nat.le_refl _) _
              obtain ⟨r0, r1⟩ := box2 wr (.slice T0 p0 f0) (.slice T1 p1 f1) 34
              rw [hZ] at r0 r1
              have HTW : Hid (∀ W, Below wr.heap.size wr W → CS W W.heap.size T0 (spCs om.1)) := fun W hW => ((x0.cs.2.more bw3.size).below hW).more hW.size
              have HBZ := Lib.hid (HB3.out.trans (bZ.mono HB3.out.size))
              have HbZ := Lib.hid bZ
              have BRZ := Lib.hid (Below.refl Z.heap.size Z)
              have HZ' := Lib.hid hZ
              have HOK3 := Lib.hid hok3
              have HP0 := Lib.hid hp0
              have wa : IntKind.i64.wrap ((a : Int) + 1) = (a : Int) + 1 := by rw [IntKind.wrap_i64]; omega
              clear hZ bZ hok3 hom hp0 hp1 hb3 bwr bw3 x0 x1
              go_upto_region 16 with fail
              rw [HZ'.out]
              go_wp2_with fail
              clear u0 u1 r0 r1
              go_loopw [8, 48] (fun s8 i wr => ∃ q : Nat, q ≤ p0 ∧ i = .int .i64 q ∧ s8 = .bool (ok3 && !((om.1.take q).any (rnd (sf, st, spp, sw)))) ∧ Hid (Below Z.heap.size Z wr)) (fun _ i _ => p0 - (intOf i).toNat)
              case atStart => exact ⟨0, Nat.zero_le _, rfl, by simp, BRZ⟩
              case round =>
                obtain ⟨q, hq, rfl, rfl, HB4⟩ := hrel
                by_cases hlq : q < p0
                · have hql : q < om.1.length := by rw [← HP0.out]; exact hlq
                  have HLQ := Lib.hid hlq
                  obtain ⟨b4, o4, hT0, _, hc⟩ := (HTW.out wr (HbZ.out.trans (HB4.out.mono HbZ.out.size))) (by rw [spCs_len]; omega)
                  obtain ⟨c0', c1', c2', c3'⟩ := spCs_at om.1 q hql
                  have e0 := hc _ _ c0'
                  have e1 := hc _ _ c1'
                  have e2 := hc _ _ c2'
                  have e3 := hc _ _ c3'
                  rw [← Nat.add_assoc] at e1 e2 e3
                  have HS4 : Hid ((om.1.take (q + 1)).any (rnd (sf, st, spp, sw)) = ((om.1.take q).any (rnd (sf, st, spp, sw)) || rnd (sf, st, spp, sw) om.1[q])) := any_snoc' _ om.1 q hql
                  obtain ⟨tp, htp⟩ : ∃ tp, tp = om.1[q] := ⟨_, rfl⟩
                  rw [← htp] at e0 e1 e2 e3 HS4
                  obtain ⟨ok4, hok4⟩ : ∃ ok4, ok4 = (ok3 && !((om.1.take q).any (rnd (sf, st, spp, sw)))) := ⟨_, rfl⟩
                  rw [← hok4]
                  obtain ⟨tf, tt, tpp, tw⟩ := tp
                  simp only at e0 e1 e2 e3
                  have HN4 : Hid ((ok3 && !((om.1.take (q + 1)).any (rnd (sf, st, spp, sw)))) = (ok4 && !(decide (tf ≤ sf) && decide (st ≤ tt)))) := by
                    show _ = _
                    rw [HS4.out, Bool.not_or, ← Bool.and_assoc, ← hok4]
                    rfl
                  have bZr := HBZ.out.trans (HB4.out.mono HBZ.out.size)
                  obtain ⟨V4, hV4⟩ : ∃ V4, wr.alloc (.cells #[.int .i64 tf, .int .i64 tt, .int .i64 tpp, .int .i64 tw] 38) = V4 := ⟨_, rfl⟩
                  have bV4 : Below wr.heap.size wr V4 := by rw [← hV4]; exact (Below.refl _ _).alloc (Nat.le_refl _) _
                  have zz4 : ∀ j u, [Value.int .i64 tf, .int .i64 tt, .int .i64 tpp, .int .i64 tw][j]? = some u → V4.cell? ⟨wr.heap.size, j, none⟩ = some u := fun j u hu => by
                    have := new_cells wr #[.int .i64 tf, .int .i64 tt, .int .i64 tpp, .int .i64 tw] 38 (0, 0) j u hu
                    rw [add_addr, hV4, Nat.zero_add] at this
                    exact this
                  have t0 := zz4 0 _ rfl
                  have t1 := zz4 1 _ rfl
                  obtain ⟨g0, g1⟩ := HKE.out V4 (bZr.trans (bV4.mono bZr.size))
                  have HBF := Lib.hid (HB4.out.trans (bV4.mono HB4.out.size))
                  have HV4 := Lib.hid hV4
                  have wq : IntKind.i64.wrap ((q : Int) + 1) = (q : Int) + 1 := by rw [IntKind.wrap_i64]; omega
                  rw [hT0]
                  clear hc c0' c1' c2' c3' hok4 htp bZr HS4 hql hV4 bV4 zz4
                  go_upto_region 19 with fail
                  rw [HV4.out]
                  clear e0 e1 e2 e3
                  cases ok4
                  · have HV : Hid ((ok3 && !((om.1.take (q + 1)).any (rnd (sf, st, spp, sw)))) = false) := by show _ = _; rw [HN4.out]; rfl
                    go_wp2_with fail
                    exact ⟨⟨q + 1, HLQ.out, by go_num, by rw [HV.out], HBF.out⟩, by have := HLQ.out; simp [intOf]; omega⟩
                  · by_cases h1 : sf < tf
                    · have d1 : decide (sf < tf) = true := decide_eq_true h1
                      have HV : Hid ((ok3 && !((om.1.take (q + 1)).any (rnd (sf, st, spp, sw)))) = true) := by show _ = _; rw [HN4.out, decide_eq_false (by omega)]; rfl
                      go_wp2_with fail
                      exact ⟨⟨q + 1, HLQ.out, by go_num, by rw [HV.out], HBF.out⟩, by have := HLQ.out; simp [intOf]; omega⟩
                    · have d1 : decide (sf < tf) = false := decide_eq_false h1
                      by_cases h2 : tt < st
                      · have d2 : decide (tt < st) = true := decide_eq_true h2
                        have HV : Hid ((ok3 && !((om.1.take (q + 1)).any (rnd (sf, st, spp, sw)))) = true) := by show _ = _; rw [HN4.out, show decide (st ≤ tt) = false from decide_eq_false (by omega), Bool.and_false]; rfl
                        go_wp2_with fail
                        exact ⟨⟨q + 1, HLQ.out, by go_num, by rw [HV.out], HBF.out⟩, by have := HLQ.out; simp [intOf]; omega⟩
                      · have d2 : decide (tt < st) = false := decide_eq_false h2
                        have HV : Hid ((ok3 && !((om.1.take (q + 1)).any (rnd (sf, st, spp, sw)))) = false) := by show _ = _; rw [HN4.out, decide_eq_true (by omega), decide_eq_true (by omega)]; rfl
                        go_wp2_with fail
                        exact ⟨⟨q + 1, HLQ.out, by go_num, by rw [HV.out], HBF.out⟩, by have := HLQ.out; simp [intOf]; omega⟩
                · obtain rfl : p0 = q := by omega
                  have HN3 : Hid ((ok3 && !((om.1.take p0).any (rnd (sf, st, spp, sw)))) = (ok2 && !(((ns.take (a + 1)).flatMap (·.1)).any (rnd (sf, st, spp, sw))))) := by
                    show _ = _
                    rw [HF3.out, List.any_append, HOK3.out, show om.1.take p0 = om.1 from List.take_of_length_le (by rw [HP0.out]; exact Nat.le_refl _), Bool.not_or, Bool.and_assoc]
                  have HBF := Lib.hid (HBZ.out.trans (HB4.out.mono HBZ.out.size))
                  rw [HN3.out]
                  go_wp2_with fail
                  exact ⟨⟨a + 1, HLA.out, by go_num, rfl, HBF⟩, by have := HLA.out; simp [intOf]; omega⟩
            · obtain rfl : n1 = a := by omega
              have HN2 : Hid ((ok2 && !(((ns.take n1).flatMap (·.1)).any (rnd (sf, st, spp, sw)))) = !((m.1.take (j + 1)).any fun s => (ns.flatMap (·.1)).any (rnd s))) := by
                show _ = _
                rw [HS2.out, HOK2.out, show ns.take n1 = ns from List.take_of_length_le (by rw [H.out.2]; exact Nat.le_refl _), Bool.not_or]
              have HBF := Lib.hid (HBY.out.trans (HB3.out.mono HBY.out.size))
              rw [HN2.out]
              go_wp2_with fail
              exact ⟨⟨j + 1, HLJ.out, by go_num, rfl, HBF⟩, by have := HLJ.out; simp [intOf]; omega⟩
        · obtain rfl : m0 = j := by omega
          have HMP : Hid (mildP ns m.1 = !((m.1.take m0).any fun s => (ns.flatMap (·.1)).any (rnd s))) := by show _ = _; rw [mildP_def, show m.1.take m0 = m.1 from List.take_of_length_le (by rw [HM0.out]; exact Nat.le_refl _)]
          obtain ⟨okb, hokb⟩ : ∃ okb, okb = !((m.1.take m0).any fun s => (ns.flatMap (·.1)).any (rnd s)) := ⟨_, rfl⟩
          rw [← hokb] at HMP ⊢
          have HWr := Lib.hid (HWX.out.up HB2.out)
          obtain ⟨k70, k71⟩ := HK7.out wr HB2.out
          obtain ⟨L, hL⟩ : ∃ L, L = zs.length := ⟨_, rfl⟩
          rw [← hL]
          rw [← hL] at HWr
          have HL := Lib.hid hL
          have hLk : L ≤ 30 := by have := HZ.out; omega
          have wk : IntKind.i64.wrap ((k : Int) + 1) = (k : Int) + 1 := by rw [IntKind.wrap_i64]; omega
          clear hokb hL
          cases okb
          · have HW' : Hid (WL w wr (.slice AV L cV) zs (thruL (mildP ns) (ms.take (k + 1)))) := by show WL _ _ _ _ _; rw [HX.out, HMP.out]; simpa using HWr.out
            go_wp2_with fail
            exact ⟨⟨k + 1, _, zs, HLT.out, by go_num, rfl, HW'⟩, by have := HLT.out; simp [intOf]; omega⟩
          · obtain ⟨Y, hY⟩ : ∃ Y, wr.alloc (.cells #[.slice S0 m0 d0, .slice S1 m1 d1] 34) = Y := ⟨_, rfl⟩
            have bY : Below wr.heap.size wr Y := by rw [← hY]; exact (Below.refl _ _).alloc (Nat.le_refl _) _
            have HCN : Hid (CS Y Y.heap.size (some ⟨wr.heap.size, 0, none⟩) [.slice S0 m0 d0, .slice S1 m1 d1]) := by
              have h := cells_new wr #[.slice S0 m0 d0, .slice S1 m1 d1] 34 Y.heap.size (by rw [← hY]; simp)
              rw [hY] at h
              exact h
            have HWY := Lib.hid (HWr.out.up bY)
            have HOY : Hid (Y.ownsRow w.heap.size 34 2 (.slice AV L cV) L (zC zs)) := by have := HWY.out.own; rw [← HL.out] at this; exact this
            have hbs := HWY.out.kb.size
            have HY := Lib.hid hY
            clear hY bY
            go_wp2_with (at_builtin; (rw [HY.out]; refine wpList_appR elMt Y rfl (.tmp 71) (.tmp 73) rfl w.heap.size (.slice AV L cV) L (zC zs) rfl HOY.out (some ⟨wr.heap.size, 0, none⟩) 1 1 Y.heap.size [.slice S0 m0 d0, .slice S1 m1 d1] rfl rfl (fun u hu => by simp at hu; rcases hu with rfl | rfl <;> rfl) HCN.out (L + 1) rfl (by omega) hbs ?_; intro v7 w7 hown7 hg7 _; have HB7 := Lib.hid (own_grow HOY.out (Nat.le_refl _) HWY.out.kb hbs hg7); rw [HL.out] at hown7; have HO7 := Lib.hid hown7; clear hown7 hg7))
            have HW' : Hid (WL w w7 v7 (zs ++ [(.slice S0 m0 d0, .slice S1 m1 d1)]) (thruL (mildP ns) (ms.take (k + 1)))) := by
              show WL _ _ _ _ _
              rw [HX.out, HMP.out]
              exact ⟨by rw [List.length_append, zC_app]; exact HO7.out, fun W hW => MZ.app (HWL.out.mz W hW) (MZ.one (HYW.out W hW).1 (HYW.out W hW).2), HB7.out⟩
            exact ⟨⟨k + 1, v7, _, HLT.out, by go_num, rfl, HW'⟩, by have := HLT.out; simp [intOf]; omega⟩
    · obtain rfl : k = n0 := by omega
      have HF : Hid (WL w wr (.slice AV zs.length cV) zs (thruL (mildP ns) ms)) := by have h := HWL.out; rw [List.take_of_length_le (by rw [H.out.1]; exact Nat.le_refl _)] at h; exact h
      obtain ⟨A6, c6, e6, m6⟩ := HF.out.ms
      obtain ⟨LL, hLL⟩ : ∃ LL, LL = thruL (mildP ns) ms := ⟨_, rfl⟩
      have HSL : Hid (smM LL) := fun x hx => HSM.out x (by rw [hLL] at hx; exact (List.mem_filter.1 hx).1)
      have hLl : LL.length ≤ 30 := by rw [hLL]; exact Nat.le_trans (List.length_filter_le _ _) (by rw [← H.out.1]; exact l0)
      have KM := Lib.hid (mild_any A0 A1 k c0 n1 c1 ms ns H.out.1 (by omega) HSM wr (HA0.out.up HF.out.kb) (hcov.out wr HF.out.kb))
      rw [← hLL] at e6 m6 KM
      rw [e6]
      have HM6 := Lib.hid m6
      have HB6 := Lib.hid HF.out.kb
      clear e6 m6 hLL HWL HF
      go_wp2_with fail
      with_reducible refine KM.out.mono ?_
      rintro e w5 ⟨v5, z5, rfl, k5⟩
      obtain ⟨A5, c5, rfl, _, _, m5⟩ := k5.out
      have KS0 := same_any A5 A6 LL.length c5 LL.length c6 LL LL rfl rfl (by omega) HSL w5 m5 (HM6.out.up k5.kb)
      rw [decide_eq_true (rfl : LL = LL)] at KS0
      have KS := Lib.hid KS0
      have HB5 := Lib.hid (HB6.out.trans (k5.kb.mono HB6.out.size))
      obtain ⟨L5, hL5⟩ : ∃ L5, L5 = LL.length := ⟨_, rfl⟩
      rw [← hL5] at KS ⊢
      clear m5 k5 KS0 hL5 KM
      go_wp2_with fail
      with_reducible refine KS.out.mono ?_
      rintro e w8 ⟨rfl, b8⟩
      have HB8 := Lib.hid (HB5.out.trans (b8.mono HB5.out.size))
      go_wp2_with fail
      go_ret
      exact ⟨rfl, HB8.out⟩
end Go.Proofs.Ytcgoeokocabelaa
