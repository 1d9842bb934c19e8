/- The law's not. -/
import Derived.Test.YtcgoeokocabelaaMaBo
namespace Go.Proofs.Ytcgoeokocabelaa
open Go.RowKit
set_option maxRecDepth 100000

theorem ms_one (w : World) : MS (w.alloc (.cells #[.slice none 0 0, .slice none 0 0] 34)) (w.alloc (.cells #[.slice none 0 0, .slice none 0 0] 34)).heap.size (some ⟨w.heap.size, 0, none⟩) [([], [])] :=
  ⟨[(.slice none 0 0, .slice none 0 0)], cells_new w #[.slice none 0 0, .slice none 0 0] 34 _ (by simp), MZ.one (SV.nil _ _) (SV.nil _ _)⟩
def LNotQ (w : World) (ms : List Mt) (e : Ending) (w' : World) : Prop := ∃ A N c b, e = .returned (.tuple #[.slice A N c, .bool b]) ∧ ((waysF 1 ms = none ∧ b = false ∧ N = 0) ∨ (waysF 1 ms = some N ∧ b = true ∧ MS w' w'.heap.size A (notL ms))) ∧ Below w.heap.size w w'
theorem notL_sm (ms : List Mt) (h : ms.length ≤ 20000) : smM (notL ms) := fun x hx => by
  have := notL_size ms x hx
  omega
theorem turns_sm (m : Mt) : smM (turns m) := fun x hx => by
  have := turns_one m x hx
  omega
set_option maxHeartbeats 16000000 in
theorem lnot_any (A : Option Addr) (n c : Nat) (ms : List Mt) (HN : Hid (n = ms.length)) (hn : n ≤ 20000) (HSM : Hid (∀ m ∈ ms, m.1.length ≤ 100 ∧ m.2.length ≤ 100)) (w : World) (h : MS w w.heap.size A ms) :
    Calls Try.prog 19 #[.slice A n c] w (LNotQ w ms) := by
  have HA := Lib.hid h
  have HM1 := Lib.hid (ms_one w)
  have hb0 : Below w.heap.size w (w.alloc (.cells #[.slice none 0 0, .slice none 0 0] 34)) := (Below.refl _ _).alloc (Nat.le_refl _) _
  have HB0 := Lib.hid hb0
  clear h hb0
  go_enter Try.func19, Try.ntmps19
  go_wp2_with fail
  go_loopw [4, 18] (fun s4 i wr => ∃ (k acc : Nat) (A4 : Option Addr) (c4 : Nat), k ≤ n ∧ i = .int .i64 k ∧ s4 = .slice A4 acc c4 ∧ acc ≤ 400 ∧ Hid (waysF 1 ms = waysF acc (ms.drop k)) ∧ Hid (acc = (notL (ms.take k)).length) ∧ Hid (MS wr wr.heap.size A4 (notL (ms.take k))) ∧ Hid (Below w.heap.size w wr)) (fun _ i _ => n - (intOf i).toNat)
  case atStart => exact ⟨0, 1, _, _, Nat.zero_le _, rfl, rfl, by decide, rfl, rfl, HM1, HB0⟩
  case round =>
    obtain ⟨k, acc, A4, c4, hk, rfl, rfl, hacc, HR, HAC, HMS, HB⟩ := hrel
    by_cases hlt : k < n
    · have hkl : k < ms.length := by rw [← HN.out]; exact hlt
      have HLT := Lib.hid hlt
      obtain ⟨b, o, z0, z1, rfl, hb1, e0, e1, y0, y1⟩ := (HA.out.below HB.out).at_ k hkl
      obtain ⟨S0, d0, rfl, _⟩ := id y0
      obtain ⟨S1, d1, rfl, _⟩ := id y1
      have HSK := HSM.out _ (List.getElem_mem hkl)
      have HD := HR.out
      rw [List.drop_eq_getElem_cons hkl, waysF] at HD
      have HNS : Hid (notL (ms.take (k + 1)) = andL (notL (ms.take k)) (turns ms[k])) := by show _ = _; rw [List.take_succ_eq_append_getElem hkl, notL_snoc]
      have HSA : Hid (smM (notL (ms.take k))) := notL_sm _ (by rw [List.length_take]; omega)
      obtain ⟨m, hm⟩ : ∃ m, m = ms[k] := ⟨_, rfl⟩
      rw [← hm] at e0 e1 y0 y1 HSK HD HNS
      obtain ⟨acL, hacL⟩ : ∃ l, l = notL (ms.take k) := ⟨_, rfl⟩
      rw [← hacL] at HNS HSA HAC HMS
      obtain ⟨l0, hl0⟩ : ∃ l, l = m.1.length := ⟨_, rfl⟩
      obtain ⟨l1, hl1⟩ : ∃ l, l = m.2.length := ⟨_, rfl⟩
      rw [← hl0] at e0 y0 HSK
      rw [← hl1] at e1 y1 HSK
      have HL0 := Lib.hid hl0
      have HL1 := Lib.hid hl1
      have hSZ : szM m = l0 + l1 := by unfold szM; rw [hl0, hl1]
      rw [hSZ] at HD
      have HDD := Lib.hid HD
      have bA : Below wr.heap.size wr (wr.alloc (.cells #[.slice S0 l0 d0, .slice S1 l1 d1] 34)) := (Below.refl _ _).alloc (Nat.le_refl _) _
      have hD : Hid (∃ D, D = wr.heap.size ∧ (wr.alloc (.cells #[.slice S0 l0 d0, .slice S1 l1 d1] 34)).cell? ⟨D, 0, none⟩ = some (.slice S0 l0 d0) ∧ (wr.alloc (.cells #[.slice S0 l0 d0, .slice S1 l1 d1] 34)).cell? ⟨D, 1, none⟩ = some (.slice S1 l1 d1)) := ⟨_, rfl, (box2 wr _ _ _).1, (box2 wr _ _ _).2⟩
      obtain ⟨D, hDe, q0, q1⟩ := hD.out
      obtain ⟨W8, hW8⟩ : ∃ W8, wr.alloc (.cells #[.slice S0 l0 d0, .slice S1 l1 d1] 34) = W8 := ⟨_, rfl⟩
      rw [hW8] at bA q0 q1
      have hs8 : W8.heap.size = D + 1 := by rw [← hW8, hDe]; simp
      have hDW : D < W8.heap.size := World.block_lt_of_cell? W8 _ q0
      have HWB := Lib.hid bA
      have k0 := y0.cs.2
      have k1 := y1.cs.2
      have HBa : Hid (CS wr wr.heap.size S0 (spCs m.1)) := k0.more HB.out.size
      have HB1 : Hid (CS wr wr.heap.size S1 (spCs m.2)) := k1.more HB.out.size
      have HM0 : Hid (MK W8 (W8.alloc (.cells #[] 34)) (.slice (some ⟨D + 1, 0, none⟩) 0 0) [] ((m.1.take 0).map (fun s => (([] : List Sp), [s])))) := by have h := MK.lit W8; rw [hs8] at h; exact h
      have HBX0 : Hid (Bx2 (W8.alloc (.cells #[] 34)) D (.slice S0 l0 d0) (.slice S1 l1 d1) (.slice (some ⟨D + 1, 0, none⟩) 0 0)) := by
        have b8 : Below W8.heap.size W8 (W8.alloc (.cells #[] 34)) := (Below.refl _ _).alloc (Nat.le_refl _) _
        exact ⟨(b8.cell hDW).trans q0, (b8.cell hDW).trans q1, fun e => by simp only [Value.ownBlock, Option.some.injEq] at e; omega⟩
      have HMS8 := Lib.hid (HMS.out.up bA)
      have HB8 := Lib.hid (HB.out.trans (bA.mono HB.out.size))
      have wk : IntKind.i64.wrap ((k : Int) + 1) = (k : Int) + 1 := by rw [IntKind.wrap_i64]; omega
      have HW8 := Lib.hid hW8
      have HDe := Lib.hid hDe
      clear bA q0 q1 hD hW8 hl0 hl1 hm hb1 k0 k1 y0 y1 hs8 HD hSZ hDW hacL HMS HR
      go_wp2_with fail
      rw [← HDe.out, HW8.out]
      clear HDe hDe HW8
      go_loopw [7, 26] (fun s7 i wr => ∃ (j : Nat) (u : Value) (ys : List (Value × Value)), j ≤ l0 ∧ i = .int .i64 j ∧ u = s7 ∧ Hid (MK W8 wr u ys ((m.1.take j).map (fun s => (([] : List Sp), [s])))) ∧ Hid (Bx2 wr D (.slice S0 l0 d0) (.slice S1 l1 d1) u)) (fun _ i _ => l0 - (intOf i).toNat)
      case atStart => exact ⟨0, _, [], Nat.zero_le _, rfl, rfl, HM0, HBX0⟩
      case round =>
        obtain ⟨j, u, ys, hj, rfl, rfl, HM, HBX⟩ := hrel
        have HZ : Hid (ys.length = j) := by show _ = _; rw [HM.out.mz.len]; simp [← HL0.out]; omega
        by_cases hlj : j < l0
        · have hjl : j < m.1.length := by rw [← HL0.out]; exact hlj
          have HLJ := Lib.hid hlj
          obtain ⟨b, o, rfl, hb, hc⟩ := (HBa.out.below (HWB.out.trans (HM.out.kb.mono HWB.out.size))) (by rw [spCs_len]; omega)
          obtain ⟨c0, c1, c2, c3⟩ := spCs_at m.1 j hjl
          have e0 := hc _ _ c0
          have e1 := hc _ _ c1
          have e2 := hc _ _ c2
          have e3 := hc _ _ c3
          rw [← Nat.add_assoc] at e1 e2 e3
          have HX : Hid ((m.1.take (j + 1)).map (fun s => (([] : List Sp), [s])) = ((m.1.take j).map (fun s => (([] : List Sp), [s]))) ++ [([], [m.1[j]])]) := by show _ = _; rw [List.take_succ_eq_append_getElem hjl]; rw [List.map_append]; rfl
          obtain ⟨s, hs⟩ : ∃ s, s = m.1[j] := ⟨_, rfl⟩
          rw [← hs] at e0 e1 e2 e3 HX
          obtain ⟨f, t, p, q⟩ := s
          simp only at e0 e1 e2 e3
          obtain ⟨X1, hX1⟩ : ∃ X, wr.alloc (.cells #[.int .i64 f, .int .i64 t, .int .i64 p, .int .i64 q] 38) = X := ⟨_, rfl⟩
          obtain ⟨X2, hX2⟩ : ∃ X, X1.alloc (.cells #[.int .i64 f, .int .i64 t, .int .i64 p, .int .i64 q] 38) = X := ⟨_, rfl⟩
          obtain ⟨X, hX⟩ : ∃ X, X2.alloc (.cells #[.slice none 0 0, .slice (some ⟨wr.heap.size + 1, 0, none⟩) 1 1] 34) = X := ⟨_, rfl⟩
          have s1 : X1.heap.size = wr.heap.size + 1 := by rw [← hX1]; simp
          have s2 : X2.heap.size = wr.heap.size + 1 + 1 := by rw [← hX2]; simp [s1]
          have s3 : X.heap.size = wr.heap.size + 3 := by rw [← hX]; simp [s2]
          have b1 : Below wr.heap.size wr X1 := by rw [← hX1]; exact (Below.refl _ _).alloc (Nat.le_refl _) _
          have b2 : Below X1.heap.size X1 X2 := by rw [← hX2]; exact (Below.refl _ _).alloc (Nat.le_refl _) _
          have b3 : Below X2.heap.size X2 X := by rw [← hX]; exact (Below.refl _ _).alloc (Nat.le_refl _) _
          have bX : Below wr.heap.size wr X := b1.trans ((b2.mono b1.size).trans (b3.mono (by omega)))
          have k2 : CS X2 X2.heap.size (some ⟨wr.heap.size + 1, 0, none⟩) (spCs [(f, t, p, q)]) := by
            have h := cells_new X1 #[.int .i64 f, .int .i64 t, .int .i64 p, .int .i64 q] 38 X2.heap.size (by omega)
            rw [hX2, s1] at h
            exact h
          have HS1 : Hid (SV X X.heap.size (.slice (some ⟨wr.heap.size + 1, 0, none⟩) 1 1) [(f, t, p, q)]) := ⟨_, 1, rfl, Nat.le_refl _, by decide, (k2.below b3).more b3.size⟩
          have HCN : Hid (CS X X.heap.size (some ⟨wr.heap.size + 1 + 1, 0, none⟩) [.slice none 0 0, .slice (some ⟨wr.heap.size + 1, 0, none⟩) 1 1]) := by
            have h := cells_new X2 #[.slice none 0 0, .slice (some ⟨wr.heap.size + 1, 0, none⟩) 1 1] 34 X.heap.size (by omega)
            rw [hX, s2] at h
            exact h
          have HX0 : Hid (((wr.alloc (.cells #[.int .i64 f, .int .i64 t, .int .i64 p, .int .i64 q] 38)).alloc (.cells #[.int .i64 f, .int .i64 t, .int .i64 p, .int .i64 q] 38)).alloc (.cells #[.slice none 0 0, .slice (some ⟨wr.heap.size + 1, 0, none⟩) 1 1] 34) = X) := by show _ = _; rw [hX1, hX2, hX]
          have HBX1 := Lib.hid bX
          have HBXX := Lib.hid (HBX.out.below bX)
          have HOX : Hid (X.ownsRow W8.heap.size 34 2 u j (zC ys)) := by have := own_below HM.out.own bX; rw [HZ.out] at this; exact this
          have hbs : W8.heap.size ≤ X.heap.size := by have := HM.out.kb.size; omega
          have wj : IntKind.i64.wrap ((j : Int) + 1) = (j : Int) + 1 := by rw [IntKind.wrap_i64]; omega
          clear hX1 hX2 hX s1 s2 s3 b1 b2 b3 bX k2 c0 c1 c2 c3 hc hs hb
          go_wp2_with (at_builtin; go_loud (rw [HX0.out]; refine wpList_appR elMt X rfl (.tmp 30) (.tmp 34) rfl W8.heap.size u j (zC ys) rfl HOX.out (some ⟨wr.heap.size + 1 + 1, 0, none⟩) 1 1 X.heap.size [.slice none 0 0, .slice (some ⟨wr.heap.size + 1, 0, none⟩) 1 1] rfl rfl (fun u hu => by simp at hu; rcases hu with rfl | rfl <;> rfl) HCN.out (j + 1) rfl (by omega) hbs ?_; intro v4 w4 hown4 hg4 hv4; rw [← HZ.out] at hown4; have HM4 := Lib.hid (HM.out.app HBX1.out (.slice none 0 0, .slice (some ⟨wr.heap.size + 1, 0, none⟩) 1 1) (([] : List Sp), [(f, t, p, q)]) (SV.nil _ _) HS1.out (Fr.nil _ _ _) (fun a n c e _ => by injection e with e; injection e with e; rw [← e]; exact Nat.le_succ _) hown4 hg4 hv4); have HB4 := Lib.hid (HBXX.out.grown hg4 hv4); clear hown4 hg4 hv4))
          rw [← HX.out] at HM4
          exact ⟨⟨j + 1, v4, _, HLJ.out, by go_num, rfl, HM4, HB4⟩, by have := HLJ.out; simp [intOf]; omega⟩
        · obtain rfl : l0 = j := by omega
          have HMA : Hid (MK W8 wr u ys (m.1.map (fun s => (([] : List Sp), [s])))) := by have h := HM.out; rw [List.take_of_length_le (by rw [HL0.out]; exact Nat.le_refl _)] at h; exact h
          clear HM HZ
          obtain ⟨q0, q1, _⟩ := id HBX.out
          clear q0
          go_wp2_with fail
          clear q1
          go_loopw [7, 40] (fun s7 i wr => ∃ (j : Nat) (u : Value) (ys : List (Value × Value)), j ≤ l1 ∧ i = .int .i64 j ∧ u = s7 ∧ Hid (MK W8 wr u ys (m.1.map (fun s => (([] : List Sp), [s])) ++ (m.2.take j).map (fun s => ([s], ([] : List Sp))))) ∧ Hid (Bx2 wr D (.slice S0 l0 d0) (.slice S1 l1 d1) u)) (fun _ i _ => l1 - (intOf i).toNat)
          case atStart => exact ⟨0, _, ys, Nat.zero_le _, rfl, rfl, by simpa using HMA, HBX⟩
          case round =>
            obtain ⟨j, u, ys, hj, rfl, rfl, HM, HBX⟩ := hrel
            have HZ : Hid (ys.length = (l0 + j)) := by show _ = _; rw [HM.out.mz.len]; simp [← HL0.out, ← HL1.out]; omega
            by_cases hlj : j < l1
            · have hjl : j < m.2.length := by rw [← HL1.out]; exact hlj
              have HLJ := Lib.hid hlj
              obtain ⟨b, o, rfl, hb, hc⟩ := (HB1.out.below (HWB.out.trans (HM.out.kb.mono HWB.out.size))) (by rw [spCs_len]; omega)
              obtain ⟨c0, c1, c2, c3⟩ := spCs_at m.2 j hjl
              have e0 := hc _ _ c0
              have e1 := hc _ _ c1
              have e2 := hc _ _ c2
              have e3 := hc _ _ c3
              rw [← Nat.add_assoc] at e1 e2 e3
              have HX : Hid (m.1.map (fun s => (([] : List Sp), [s])) ++ (m.2.take (j + 1)).map (fun s => ([s], ([] : List Sp))) = (m.1.map (fun s => (([] : List Sp), [s])) ++ (m.2.take j).map (fun s => ([s], ([] : List Sp)))) ++ [([m.2[j]], [])]) := by show _ = _; rw [List.take_succ_eq_append_getElem hjl]; rw [List.map_append, ← List.append_assoc]; rfl
              obtain ⟨s, hs⟩ : ∃ s, s = m.2[j] := ⟨_, rfl⟩
              rw [← hs] at e0 e1 e2 e3 HX
              obtain ⟨f, t, p, q⟩ := s
              simp only at e0 e1 e2 e3
              obtain ⟨X1, hX1⟩ : ∃ X, wr.alloc (.cells #[.int .i64 f, .int .i64 t, .int .i64 p, .int .i64 q] 38) = X := ⟨_, rfl⟩
              obtain ⟨X2, hX2⟩ : ∃ X, X1.alloc (.cells #[.int .i64 f, .int .i64 t, .int .i64 p, .int .i64 q] 38) = X := ⟨_, rfl⟩
              obtain ⟨X, hX⟩ : ∃ X, X2.alloc (.cells #[.slice (some ⟨wr.heap.size + 1, 0, none⟩) 1 1, .slice none 0 0] 34) = X := ⟨_, rfl⟩
              have s1 : X1.heap.size = wr.heap.size + 1 := by rw [← hX1]; simp
              have s2 : X2.heap.size = wr.heap.size + 1 + 1 := by rw [← hX2]; simp [s1]
              have s3 : X.heap.size = wr.heap.size + 3 := by rw [← hX]; simp [s2]
              have b1 : Below wr.heap.size wr X1 := by rw [← hX1]; exact (Below.refl _ _).alloc (Nat.le_refl _) _
              have b2 : Below X1.heap.size X1 X2 := by rw [← hX2]; exact (Below.refl _ _).alloc (Nat.le_refl _) _
              have b3 : Below X2.heap.size X2 X := by rw [← hX]; exact (Below.refl _ _).alloc (Nat.le_refl _) _
              have bX : Below wr.heap.size wr X := b1.trans ((b2.mono b1.size).trans (b3.mono (by omega)))
              have k2 : CS X2 X2.heap.size (some ⟨wr.heap.size + 1, 0, none⟩) (spCs [(f, t, p, q)]) := by
                have h := cells_new X1 #[.int .i64 f, .int .i64 t, .int .i64 p, .int .i64 q] 38 X2.heap.size (by omega)
                rw [hX2, s1] at h
                exact h
              have HS1 : Hid (SV X X.heap.size (.slice (some ⟨wr.heap.size + 1, 0, none⟩) 1 1) [(f, t, p, q)]) := ⟨_, 1, rfl, Nat.le_refl _, by decide, (k2.below b3).more b3.size⟩
              have HCN : Hid (CS X X.heap.size (some ⟨wr.heap.size + 1 + 1, 0, none⟩) [.slice (some ⟨wr.heap.size + 1, 0, none⟩) 1 1, .slice none 0 0]) := by
                have h := cells_new X2 #[.slice (some ⟨wr.heap.size + 1, 0, none⟩) 1 1, .slice none 0 0] 34 X.heap.size (by omega)
                rw [hX, s2] at h
                exact h
              have HX0 : Hid (((wr.alloc (.cells #[.int .i64 f, .int .i64 t, .int .i64 p, .int .i64 q] 38)).alloc (.cells #[.int .i64 f, .int .i64 t, .int .i64 p, .int .i64 q] 38)).alloc (.cells #[.slice (some ⟨wr.heap.size + 1, 0, none⟩) 1 1, .slice none 0 0] 34) = X) := by show _ = _; rw [hX1, hX2, hX]
              have HBX1 := Lib.hid bX
              have HBXX := Lib.hid (HBX.out.below bX)
              have HOX : Hid (X.ownsRow W8.heap.size 34 2 u (l0 + j) (zC ys)) := by have := own_below HM.out.own bX; rw [HZ.out] at this; exact this
              have hbs : W8.heap.size ≤ X.heap.size := by have := HM.out.kb.size; omega
              have wj : IntKind.i64.wrap ((j : Int) + 1) = (j : Int) + 1 := by rw [IntKind.wrap_i64]; omega
              clear hX1 hX2 hX s1 s2 s3 b1 b2 b3 bX k2 c0 c1 c2 c3 hc hs hb
              go_wp2_with (at_builtin; go_loud (rw [HX0.out]; refine wpList_appR elMt X rfl (.tmp 44) (.tmp 48) rfl W8.heap.size u (l0 + j) (zC ys) rfl HOX.out (some ⟨wr.heap.size + 1 + 1, 0, none⟩) 1 1 X.heap.size [.slice (some ⟨wr.heap.size + 1, 0, none⟩) 1 1, .slice none 0 0] rfl rfl (fun u hu => by simp at hu; rcases hu with rfl | rfl <;> rfl) HCN.out ((l0 + j) + 1) rfl (by omega) hbs ?_; intro v4 w4 hown4 hg4 hv4; rw [← HZ.out] at hown4; have HM4 := Lib.hid (HM.out.app HBX1.out (.slice (some ⟨wr.heap.size + 1, 0, none⟩) 1 1, .slice none 0 0) ([(f, t, p, q)], ([] : List Sp)) HS1.out (SV.nil _ _) (fun a n c e _ => by injection e with e; injection e with e; rw [← e]; exact Nat.le_succ _) (Fr.nil _ _ _) hown4 hg4 hv4); have HB4 := Lib.hid (HBXX.out.grown hg4 hv4); clear hown4 hg4 hv4))
              rw [← HX.out] at HM4
              exact ⟨⟨j + 1, v4, _, HLJ.out, by go_num, rfl, HM4, HB4⟩, by have := HLJ.out; simp [intOf]; omega⟩
            · obtain rfl : l1 = j := by omega
              have HMA2 : Hid (MK W8 wr u ys (turns m)) := by have h := HM.out; rw [List.take_of_length_le (by rw [HL1.out]; exact Nat.le_refl _)] at h; exact h
              clear HM HZ
              obtain ⟨AT, cT, eT, _, _, mT⟩ := HMA2.out.out
              rw [turns_len, show szM m = l0 + l1 from by unfold szM; rw [HL0.out, HL1.out]] at eT
              obtain ⟨T, hT⟩ : ∃ T, l0 + l1 = T := ⟨_, rfl⟩
              rw [hT] at eT HDD
              have hTl : T ≤ 200 := by omega
              have hPl : acc * T ≤ 400 * 200 := Nat.mul_le_mul hacc hTl
              subst eT
              have KA := Lib.hid (land_any A4 AT acc c4 T cT acL (turns m) ⟨HAC.out, by rw [turns_len]; unfold szM; rw [← HL0.out, ← HL1.out, hT]⟩ (by omega) (by omega) (by omega) ⟨HSA.out, turns_sm m⟩ wr (HMS8.out.up HMA2.out.kb) mT)
              have HBT := Lib.hid (HB8.out.trans (HMA2.out.kb.mono HB8.out.size))
              have HT := Lib.hid hT
              clear mT hT HMA2 HBX
              obtain ⟨P, hPe⟩ : ∃ P, acc * T = P := ⟨_, rfl⟩
              have HLN : Hid ((andL acL (turns m)).length = P) := by show _ = _; rw [andL_len, turns_len, ← HAC.out, ← hPe]; unfold szM; rw [← HL0.out, ← HL1.out, HT.out]
              rw [hPe] at KA HDD hPl
              clear hPe
              by_cases hP : P ≤ 400
              · rw [decide_eq_true hP] at KA
                have HW : Hid (waysF 1 ms = waysF P (ms.drop (k + 1))) := by have h := HDD.out; rw [if_pos hP] at h; exact h
                go_wp2_with fail
                with_reducible refine KA.out.mono ?_
                rintro e w9 ⟨v9, z9, rfl, k9⟩
                obtain ⟨A9, c9, rfl, _, _, m9⟩ := k9.out
                rw [HLN.out]
                have HLE : Hid (P = (notL (ms.take (k + 1))).length) := by show _ = _; rw [HNS.out, HLN.out]
                have HM9 : Hid (MS w9 w9.heap.size A9 (notL (ms.take (k + 1)))) := by rw [HNS.out]; exact m9
                have HB9 := Lib.hid (HBT.out.trans (k9.kb.mono HBT.out.size))
                clear k9 m9
                go_wp2_with fail
                exact ⟨⟨k + 1, P, A9, c9, HLT.out, by go_num, rfl, hP, HW, HLE, HM9, HB9⟩, by have := HLT.out; simp [intOf]; omega⟩
              · rw [decide_eq_false hP] at KA
                have HW : Hid (waysF 1 ms = none) := by have h := HDD.out; rw [if_neg hP] at h; exact h
                go_wp2_with fail
                with_reducible refine KA.out.mono ?_
                rintro e w9 ⟨v9, z9, rfl, k9⟩
                have HB9 := Lib.hid (HBT.out.trans (k9.kb.mono HBT.out.size))
                clear k9
                go_wp2_with fail
                go_ret2
                exact ⟨_, _, _, _, rfl, .inl ⟨HW.out, rfl, rfl⟩, HB9.out⟩
    · obtain rfl : k = n := by omega
      have hw : waysF 1 ms = some acc := by have := HR.out; rw [List.drop_of_length_le (by rw [HN.out]; exact Nat.le_refl _)] at this; exact this
      have hms := HMS.out
      rw [List.take_of_length_le (by rw [HN.out]; exact Nat.le_refl _)] at hms
      have HF : Hid (LNotQ w ms (.returned (.tuple #[.slice A4 acc c4, .bool true])) wr) := ⟨_, _, _, _, rfl, .inr ⟨hw, rfl, hms⟩, HB.out⟩
      clear hw hms
      go_wp2_with fail
      go_ret2
      exact HF.out
end Go.Proofs.Ytcgoeokocabelaa
