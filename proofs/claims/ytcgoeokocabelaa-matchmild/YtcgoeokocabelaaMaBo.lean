/- The law's both, and. -/
import Derived.Test.YtcgoeokocabelaaMaGd
namespace Go.Proofs.Ytcgoeokocabelaa
open Go.RowKit
set_option maxRecDepth 100000

set_option maxHeartbeats 1000000 in
theorem both_any (A1 A2 : Option Addr) (n1 c1 n2 c2 N : Nat) (l m : List Sp) (HN : Hid (n1 + n2 = N)) (hN : N ≤ 40000) (w : World) (h1 : SV w w.heap.size (.slice A1 n1 c1) l) (h2 : SV w w.heap.size (.slice A2 n2 c2) m) :
    Calls Try.prog 35 #[.slice A1 n1 c1, .slice A2 n2 c2] w fun e w' => ∃ A' c', e = .returned (.slice A' N c') ∧ SV w' w'.heap.size (.slice A' N c') (l ++ m) ∧ Below w.heap.size w w' ∧ Fr w.heap.size (.slice A' N c') := by
  obtain ⟨e1, k1⟩ := h1.cs
  obtain ⟨e2, k2⟩ := h2.cs
  have E1 := Lib.hid e1
  have E2 := Lib.hid e2
  obtain ⟨X, hX⟩ : ∃ X, w.alloc (.cells #[] 38) = X := ⟨_, rfl⟩
  have bX : Below w.heap.size w X := by rw [← hX]; exact (Below.refl _ _).alloc (Nat.le_refl _) _
  have HO : Hid (X.ownsRow w.heap.size 38 4 (.slice (some ⟨w.heap.size, 0, none⟩) 0 0) 0 []) := by rw [← hX]; exact own_lit w _ 4 (0, 0) rfl
  have HC1 := Lib.hid (k1.below bX)
  have HC2 := Lib.hid k2
  have HX := Lib.hid hX
  have HB := Lib.hid bX
  have hsz := bX.size
  have hn1 : n1 ≤ 40000 := by have := HN.out; omega
  clear hX bX k1 k2 e1 e2 h1 h2
  go_enter Try.func35, Try.ntmps35
  go_wp2_with (first
    | (at_builtin; go_loud (rw [HX.out]; refine wpList_appR elSp X rfl (.tmp 5) (.tmp 6) rfl w.heap.size _ 0 [] rfl HO.out A1 n1 c1 w.heap.size (spCs l) rfl (by rw [spCs_len, E1.out]) (spCs_one l) HC1.out n1 (by omega) (by omega) hsz ?_; intro v4 w4 hown4 hg4 _; have H4 := Lib.hid (And.intro hown4 (own_grow HO.out (Nat.le_refl _) HB.out hsz hg4)); clear hown4 hg4))
    | (at_builtin; go_loud (refine wpList_appR elSp w4 rfl (.tmp 7) (.tmp 8) rfl w.heap.size v4 n1 ([] ++ spCs l) rfl H4.out.1 A2 n2 c2 w.heap.size (spCs m) rfl (by rw [spCs_len, E2.out]) (spCs_one m) (HC2.out.below H4.out.2) N HN.out (by omega) H4.out.2.size ?_; intro v5 w5 hown5 hg5 _; have H5 := Lib.hid (And.intro hown5 (own_grow H4.out.1 (Nat.le_refl _) H4.out.2 H4.out.2.size hg5)); clear hown5 hg5)))
  obtain ⟨A5, c5, rfl, _⟩ := own_form H5.out.1
  go_ret
  have ho := H5.out.1
  rw [List.nil_append, ← spCs_app] at ho
  exact ⟨A5, c5, rfl, SV.own ho (by rw [List.length_append, ← E1.out, ← E2.out, HN.out]), H5.out.2, Fr.own ho⟩
theorem MK.lit (w : World) : MK w (w.alloc (.cells #[] 34)) (.slice (some ⟨w.heap.size, 0, none⟩) 0 0) [] [] :=
  ⟨own_lit w _ 2 (0, 0) rfl, MZ.nil _ _, (Below.refl _ _).alloc (Nat.le_refl _) _, fun z h => by cases h⟩
set_option maxHeartbeats 8000000 in
theorem land_any (A1 A2 : Option Addr) (n1 c1 n2 c2 : Nat) (ms ns : List Mt) (HN : Hid (n1 = ms.length ∧ n2 = ns.length)) (hN : n1 * n2 ≤ 100000) (hn1 : n1 ≤ 100000) (hn2 : n2 ≤ 100000) (HSZ : Hid (smM ms ∧ smM ns)) (w : World) (h1 : MS w w.heap.size A1 ms) (h2 : MS w w.heap.size A2 ns) :
    Calls Try.prog 18 #[.slice A1 n1 c1, .slice A2 n2 c2] w fun e w' => ∃ v zs, e = .returned (.tuple #[v, .bool (decide (n1 * n2 ≤ 400))]) ∧ MK w w' v zs (andL ms ns) := by
  have HN4 := Lib.hid hN
  have HA1 := Lib.hid h1
  have HA2 := Lib.hid h2
  have HM0 := Lib.hid (MK.lit w)
  obtain ⟨P, hP⟩ : ∃ P, n1 * n2 = P := ⟨_, rfl⟩
  have eP : (n1 : Int) * (n2 : Int) = (P : Int) := by rw [← hP]; push_cast; rfl
  have wP : IntKind.i64.wrap ((n1 : Int) * (n2 : Int)) = (P : Int) := by rw [eP, IntKind.wrap_i64]; omega
  have bP : decide ((P : Int) ≤ 400) = decide (P ≤ 400) := by by_cases h : P ≤ 400 <;> simp [h] <;> omega
  rw [hP]
  have HP := Lib.hid hP
  have HBP := Lib.hid bP
  clear hN h1 h2 eP hP bP
  go_enter Try.func18, Try.ntmps18
  go_wp2_with fail
  go_loopw [6, 14] (fun s6 i wr => ∃ (k : Nat) (v : Value) (zs : List (Value × Value)), k ≤ n1 ∧ i = .int .i64 k ∧ v = s6 ∧ Hid (MK w wr v zs (andL (ms.take k) ns))) (fun _ i _ => n1 - (intOf i).toNat)
  case atStart => exact ⟨0, _, [], Nat.zero_le _, rfl, rfl, HM0⟩
  case round =>
    obtain ⟨k, v, zs, hk, rfl, rfl, HM⟩ := hrel
    by_cases hlt : k < n1
    · have hkl : k < ms.length := by rw [← HN.out.1]; exact hlt
      have HLT := Lib.hid hlt
      obtain ⟨b, o, z0, z1, rfl, hb1, e0, e1, y0, y1⟩ := (HA1.out.below HM.out.kb).at_ k hkl
      obtain ⟨S0, d0, rfl, _⟩ := id y0
      obtain ⟨S1, d1, rfl, _⟩ := id y1
      have HSK := HSZ.out.1 _ (List.getElem_mem hkl)
      have HX1 : Hid (andL (ms.take (k + 1)) ns = andL (ms.take k) ns ++ ns.map (joinM ms[k])) := by show _ = _; rw [List.take_succ_eq_append_getElem hkl, andL_snoc]
      obtain ⟨m, hm⟩ : ∃ m, m = ms[k] := ⟨_, rfl⟩
      rw [← hm] at e0 e1 y0 y1 HSK HX1
      obtain ⟨l0, hl0⟩ : ∃ l, l = m.1.length := ⟨_, rfl⟩
      obtain ⟨l1, hl1⟩ : ∃ l, l = m.2.length := ⟨_, rfl⟩
      rw [← hl0] at e0 y0 HSK
      rw [← hl1] at e1 y1 HSK
      have bA : Below wr.heap.size wr (wr.alloc (.cells #[.slice S0 l0 d0, .slice S1 l1 d1] 34)) := (Below.refl _ _).alloc (Nat.le_refl _) _
      have HM8 := Lib.hid (HM.out.below bA)
      have HD : Hid (∃ D, D = wr.heap.size ∧ Bx2 (wr.alloc (.cells #[.slice S0 l0 d0, .slice S1 l1 d1] 34)) D (.slice S0 l0 d0) (.slice S1 l1 d1) v) := ⟨_, rfl, (box2 wr _ _ _).1, (box2 wr _ _ _).2, fun e => by
        obtain ⟨_, _, _, _, _, _, hob⟩ := own_form HM.out.own
        have := (hob _ e).2
        omega⟩
      obtain ⟨D, hD, HDB⟩ := HD.out
      have HDB := Lib.hid HDB
      have HYW : Hid (∀ W, Below w.heap.size w W → SV W W.heap.size (.slice S0 l0 d0) m.1 ∧ SV W W.heap.size (.slice S1 l1 d1) m.2) := fun W hW =>
        ⟨(y0.move y0.lt fun g g1 _ => ⟨(hW.block g g1).trans (HM.out.kb.block g g1).symm, by have := hW.size; omega⟩), (y1.move y1.lt fun g g1 _ => ⟨(hW.block g g1).trans (HM.out.kb.block g g1).symm, by have := hW.size; omega⟩)⟩
      have wk : IntKind.i64.wrap ((k : Int) + 1) = (k : Int) + 1 := by rw [IntKind.wrap_i64]; omega
      obtain ⟨W8, hW8⟩ : ∃ W8, wr.alloc (.cells #[.slice S0 l0 d0, .slice S1 l1 d1] 34) = W8 := ⟨_, rfl⟩
      rw [hW8] at HM8 HDB
      have HW8 := Lib.hid hW8
      clear bA y0 y1 hm hb1 HD hW8 hl0 hl1
      go_wp2_with fail
      rw [← hD, HW8.out]
      clear hD HW8
      go_loopw [6, 20] (fun s6 i wq => ∃ (j : Nat) (v : Value) (zs : List (Value × Value)), j ≤ n2 ∧ i = .int .i64 j ∧ v = s6 ∧ Hid (MK w wq v zs (andL (ms.take k) ns ++ (ns.take j).map (joinM m))) ∧ Hid (Bx2 wq D (.slice S0 l0 d0) (.slice S1 l1 d1) v)) (fun _ i _ => n2 - (intOf i).toNat)
      case atStart => exact ⟨0, _, _, Nat.zero_le _, rfl, rfl, by simpa using HM8, HDB⟩
      case round =>
        obtain ⟨j, u, ys, hj, rfl, rfl, HQ, HBX⟩ := hrel
        by_cases hlj : j < n2
        · have hjl : j < ns.length := by rw [← HN.out.2]; exact hlj
          have HLJ := Lib.hid hlj
          obtain ⟨g, p, z0, z1, rfl, hg1, i0, i1, t0, t1⟩ := (HA2.out.below HQ.out.kb).at_ j hjl
          obtain ⟨R0, r0, rfl, _⟩ := id t0
          obtain ⟨R1, r1, rfl, _⟩ := id t1
          have HSJ := HSZ.out.2 _ (List.getElem_mem hjl)
          have HXJ : Hid ((ns.take (j + 1)).map (joinM m) = (ns.take j).map (joinM m) ++ [joinM m ns[j]]) := by show _ = _; rw [List.take_succ_eq_append_getElem hjl, List.map_append]; rfl
          obtain ⟨y, hy⟩ : ∃ y, y = ns[j] := ⟨_, rfl⟩
          rw [← hy] at i0 i1 t0 t1 HSJ HXJ
          obtain ⟨k0, hk0⟩ : ∃ l, l = y.1.length := ⟨_, rfl⟩
          obtain ⟨k1, hk1⟩ : ∃ l, l = y.2.length := ⟨_, rfl⟩
          rw [← hk0] at i0 t0 HSJ
          rw [← hk1] at i1 t1 HSJ
          obtain ⟨NZ, hNZ⟩ : ∃ NZ, NZ = ys.length := ⟨_, rfl⟩
          have hNZ4 : NZ ≤ 100000 := by
            have h1 : ys.length = k * n2 + j := by rw [HQ.out.mz.len, List.length_append, andL_len, List.length_map, List.length_take, List.length_take, ← HN.out.1, ← HN.out.2]; rw [Nat.min_eq_left (by omega), Nat.min_eq_left (by omega)]
            have h2 : (k + 1) * n2 ≤ n1 * n2 := Nat.mul_le_mul_right _ HLT.out
            rw [Nat.add_mul] at h2
            have := HN4.out
            omega
          have HNZ := Lib.hid hNZ
          obtain ⟨X, hX⟩ : ∃ X, wr.alloc (.cells #[.slice R0 k0 r0, .slice R1 k1 r1] 34) = X := ⟨_, rfl⟩
          have bB : Below wr.heap.size wr X := by rw [← hX]; exact (Below.refl _ _).alloc (Nat.le_refl _) _
          have HBB := Lib.hid bB
          have hkw := HQ.out.kb.trans (bB.mono HQ.out.kb.size)
          obtain ⟨q0, q1⟩ := box2 wr (.slice R0 k0 r0) (.slice R1 k1 r1) 34
          rw [hX] at q0 q1
          have HBX9 := Lib.hid (HBX.out.below bB)
          have HX := Lib.hid hX
          obtain ⟨N0, hN0⟩ : ∃ N, l0 + k0 = N := ⟨_, rfl⟩
          obtain ⟨N1, hN1⟩ : ∃ N, l1 + k1 = N := ⟨_, rfl⟩
          have KB1 : Hid (∀ W, Below X.heap.size X W → Calls Try.prog 35 #[.slice S0 l0 d0, .slice R0 k0 r0] W fun e w' => ∃ A' c', e = .returned (.slice A' N0 c') ∧ SV w' w'.heap.size (.slice A' N0 c') (m.1 ++ y.1) ∧ Below X.heap.size X w' ∧ Below W.heap.size W w' ∧ Fr X.heap.size (.slice A' N0 c')) := fun W hW =>
            (both_any S0 R0 l0 d0 k0 r0 N0 m.1 y.1 hN0 (by omega) W (HYW.out W (hkw.trans (hW.mono hkw.size))).1 ((t0.more HQ.out.kb.size).up (bB.trans (hW.mono bB.size)))).mono fun e w' ⟨A', c', h1, h2, h3, h4⟩ => ⟨A', c', h1, h2, hW.trans (h3.mono hW.size), h3, h4.le hW.size⟩
          have KB2 : Hid (∀ W, Below X.heap.size X W → Calls Try.prog 35 #[.slice S1 l1 d1, .slice R1 k1 r1] W fun e w' => ∃ A' c', e = .returned (.slice A' N1 c') ∧ SV w' w'.heap.size (.slice A' N1 c') (m.2 ++ y.2) ∧ Below X.heap.size X w' ∧ Below W.heap.size W w' ∧ Fr X.heap.size (.slice A' N1 c')) := fun W hW =>
            (both_any S1 R1 l1 d1 k1 r1 N1 m.2 y.2 hN1 (by omega) W (HYW.out W (hkw.trans (hW.mono hkw.size))).2 ((t1.more HQ.out.kb.size).up (bB.trans (hW.mono bB.size)))).mono fun e w' ⟨A', c', h1, h2, h3, h4⟩ => ⟨A', c', h1, h2, hW.trans (h3.mono hW.size), h3, h4.le hW.size⟩
          have HKC : Hid (∀ W, Below X.heap.size X W → (W.cell? ⟨D, 0, none⟩ = some (.slice S0 l0 d0) ∧ W.cell? ⟨D, 1, none⟩ = some (.slice S1 l1 d1)) ∧ W.cell? ⟨wr.heap.size, 0, none⟩ = some (.slice R0 k0 r0) ∧ W.cell? ⟨wr.heap.size, 1, none⟩ = some (.slice R1 k1 r1)) := fun W hW => ⟨⟨(hW.cell HBX9.out.lt).trans HBX9.out.c0, (hW.cell HBX9.out.lt).trans HBX9.out.c1⟩, (hW.cell (World.block_lt_of_cell? X _ q0)).trans q0, (hW.cell (World.block_lt_of_cell? X _ q1)).trans q1⟩
          have hub : u.ownBlock ≠ some wr.heap.size := fun e => by
            obtain ⟨_, _, _, _, _, _, hob⟩ := own_form HQ.out.own
            have := (hob _ e).2
            omega
          have HKG : Hid (∀ W W', Below X.heap.size X W → W.grownBy W' u.ownBlock → (W'.cell? ⟨D, 0, none⟩ = some (.slice S0 l0 d0) ∧ W'.cell? ⟨D, 1, none⟩ = some (.slice S1 l1 d1)) ∧ W'.cell? ⟨wr.heap.size, 0, none⟩ = some (.slice R0 k0 r0) ∧ W'.cell? ⟨wr.heap.size, 1, none⟩ = some (.slice R1 k1 r1)) := fun W W' hW hg => by
            obtain ⟨⟨a1, a2⟩, a3, a4⟩ := HKC.out W hW
            have g1 := hg.block D (World.block_lt_of_cell? W _ a1) (fun e => HBX.out.ne e.symm)
            have g2 := hg.block wr.heap.size (World.block_lt_of_cell? W _ a3) (fun e => hub e.symm)
            simp only [World.cell?, g1] at a1 a2 ⊢
            simp only [World.cell?, g2] at a3 a4 ⊢
            exact ⟨⟨a1, a2⟩, a3, a4⟩
          have HOW : Hid (∀ W, Below X.heap.size X W → W.ownsRow w.heap.size 34 2 u NZ (zC ys)) := fun W hW => by have := own_below (own_below HQ.out.own bB) hW; rw [← HNZ.out] at this; exact this
          have BR := Lib.hid (Below.refl X.heap.size X)
          have BA : Hid (∀ W o, Below X.heap.size X W → Below X.heap.size X (W.alloc o)) := fun W o hW => hW.alloc hW.size o
          have hsX := hkw.size
          have wj : IntKind.i64.wrap ((j : Int) + 1) = (j : Int) + 1 := by rw [IntKind.wrap_i64]; omega
          clear bB t0 t1 hy hk0 hk1 hg1 hkw hX hN0 hN1 hNZ HSJ q0 q1
          go_wp2_with fail
          rw [HX.out]
          go_region_held3 (fun W => (W.cell? ⟨D, 0, none⟩ = some (.slice S0 l0 d0) ∧ W.cell? ⟨D, 1, none⟩ = some (.slice S1 l1 d1)) ∧ W.cell? ⟨wr.heap.size, 0, none⟩ = some (.slice R0 k0 r0) ∧ W.cell? ⟨wr.heap.size, 1, none⟩ = some (.slice R1 k1 r1))
            (first | exact HKC.out _ BR.out.drew | exact HKC.out _ b4 | exact HKC.out _ b5 | exact HKC.out _ (BA.out _ _ b5) | exact s6)
            (first
              | (go_at_call 35; (with_reducible refine (KB1.out _ BR.out.drew).mono ?_); rintro e w4 ⟨T0, g0, rfl, s4, b4, _, f4⟩)
              | (go_at_call 35; (with_reducible refine (KB2.out _ b4).mono ?_); rintro e w5 ⟨T1, g1', rfl, s5, b5, b45, f5⟩)
              | (refine step_appR elMt (w5.alloc (.cells #[.slice T0 N0 g0, .slice T1 N1 g1'] 34)) (by rfl) _ _ (by rfl) w.heap.size u NZ (zC ys) (by rfl) (HOW.out _ (BA.out _ _ b5)) (some ⟨w5.heap.size, 0, none⟩) 1 1 (w5.heap.size + 1) [.slice T0 N0 g0, .slice T1 N1 g1'] (by rfl) (by rfl) (fun u hu => by simp at hu; rcases hu with rfl | rfl <;> rfl) (cells_new w5 _ _ _ (Nat.lt_succ_self _)) (NZ + 1) (by rfl) (by omega) (by have := (BA.out _ (.cells #[.slice T0 N0 g0, .slice T1 N1 g1'] 34) b5).size; omega) ?_; intro v6 w6 hown6 hg6 hv6; have s6 := HKG.out _ _ (BA.out _ _ b5) hg6))
          all_goals
            have bA5 : Below w5.heap.size w5 (w5.alloc (.cells #[.slice T0 N0 g0, .slice T1 N1 g1'] 34)) := (Below.refl _ _).alloc (Nat.le_refl _) _
            rw [HNZ.out] at hown6
            have HM6 := Lib.hid (HQ.out.app (HBB.out.trans ((BA.out _ (.cells #[.slice T0 N0 g0, .slice T1 N1 g1'] 34) b5).mono HBB.out.size)) (.slice T0 N0 g0, .slice T1 N1 g1') (joinM m y) ((s4.up b45).up bA5) (s5.up bA5) (f4.le HBB.out.size) (f5.le HBB.out.size) hown6 hg6 hv6)
            have HBX6 := Lib.hid ((HBX9.out.below (BA.out _ (.cells #[.slice T0 N0 g0, .slice T1 N1 g1'] 34) b5)).grown hg6 hv6)
            rw [List.append_assoc, ← HXJ.out] at HM6
            clear hown6 hg6 hv6 s6 s4 s5 b4 b5 b45 f4 f5 bA5
            go_wp2_with fail
            exact ⟨⟨j + 1, v6, _, HLJ.out, by go_num, rfl, HM6, HBX6⟩, by have := HLJ.out; simp [intOf]; omega⟩
        · have hje : j = n2 := by omega
          have HF : Hid (MK w wr u ys (andL (ms.take (k + 1)) ns)) := by
            have h := HQ.out
            have e : ns.take j = ns := List.take_of_length_le (by rw [← HN.out.2]; omega)
            rw [e, ← HX1.out] at h
            exact h
          have hji : ¬ (j : Int) < (n2 : Int) := by omega
          clear hje
          go_wp2_with fail
          exact ⟨⟨k + 1, u, ys, HLT.out, by go_num, rfl, HF⟩, by have := HLT.out; simp [intOf]; omega⟩
    · obtain rfl : k = n1 := by omega
      have HF : Hid (MK w wr v zs (andL ms ns)) := by have h := HM.out; rw [List.take_of_length_le (by rw [HN.out.1]; exact Nat.le_refl _)] at h; exact h
      go_wp2_with fail
      go_ret2
      exact ⟨_, _, by rw [← HBP.out]; rfl, HF.out⟩
end Go.Proofs.Ytcgoeokocabelaa
