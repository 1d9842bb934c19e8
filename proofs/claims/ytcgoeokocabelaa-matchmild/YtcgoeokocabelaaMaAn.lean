/- And. -/
import Derived.Test.YtcgoeokocabelaaMaOr
namespace Go.Proofs.Ytcgoeokocabelaa
open Go.RowKit
set_option maxRecDepth 100000

def joinM (x y : Mt) : Mt := (x.1 ++ y.1, x.2 ++ y.2)
def andL (ms ns : List Mt) : List Mt := ms.flatMap fun x => ns.map (joinM x)
theorem andL_snoc (ms ns : List Mt) (x : Mt) : andL (ms ++ [x]) ns = andL ms ns ++ ns.map (joinM x) := by unfold andL; rw [List.flatMap_append]; simp
theorem andL_len : ∀ (ms ns : List Mt), (andL ms ns).length = ms.length * ns.length
  | [], ns => by simp [andL]
  | x :: t, ns => by
    have ih := andL_len t ns
    have e : andL (x :: t) ns = ns.map (joinM x) ++ andL t ns := rfl
    rw [e, List.length_append, List.length_map, ih, List.length_cons, Nat.add_mul]
    omega
/-- A box of two cells, beside a row that grows. -/
structure Bx2 (w : World) (D : Nat) (z0 z1 v : Value) : Prop where
  c0 : w.cell? ⟨D, 0, none⟩ = some z0
  c1 : w.cell? ⟨D, 1, none⟩ = some z1
  ne : v.ownBlock ≠ some D
theorem Bx2.lt {w : World} {D : Nat} {z0 z1 v : Value} (h : Bx2 w D z0 z1 v) : D < w.heap.size := World.block_lt_of_cell? w _ h.c0
theorem Bx2.below {w w' : World} {D : Nat} {z0 z1 v : Value} (h : Bx2 w D z0 z1 v) (hb : Below w.heap.size w w') : Bx2 w' D z0 z1 v := ⟨(hb.cell h.lt).trans h.c0, (hb.cell h.lt).trans h.c1, h.ne⟩
theorem Bx2.grown {w w' : World} {D : Nat} {z0 z1 v v' : Value} (h : Bx2 w D z0 z1 v) (hg : w.grownBy w' v.ownBlock) (hv : v'.ownBlock = v.ownBlock ∨ v'.ownBlock = some w.heap.size) : Bx2 w' D z0 z1 v' := by
  have hb := hg.block D h.lt (fun e => h.ne e.symm)
  refine ⟨?_, ?_, fun e => ?_⟩
  · have := h.c0; simp only [World.cell?, hb] at this ⊢; exact this
  · have := h.c1; simp only [World.cell?, hb] at this ⊢; exact this
  · rcases hv with hv | hv
    · exact h.ne (by rw [← hv]; exact e)
    · rw [hv] at e
      injection e with e
      have := h.lt
      omega
set_option maxHeartbeats 400000 in
theorem and_many (A1 A2 : Option Addr) (n1 c1 n2 c2 : Nat) (h0 : 0 < n1) (h1 : n1 ≤ 1000000) (h : 400 < n1 * n2) (w : World) :
    Calls Try.prog 16 #[.slice A1 n1 c1, .slice A2 n2 c2] w fun e w' => e = .returned (.tuple #[.slice none 0 0, .int .i64 23]) ∧ Below w.heap.size w w' := by
  obtain ⟨q, hq⟩ : ∃ q, q = 400 / n1 := ⟨_, rfl⟩
  have hqn : q < n2 := by rw [hq]; exact (Nat.div_lt_iff_lt_mul h0).2 (by rw [Nat.mul_comm]; exact h)
  have hq4 : q ≤ 400 := by rw [hq]; exact Nat.div_le_self _ _
  have hd : (400 : Int).tdiv (n1 : Int) = (q : Int) := by rw [hq]; exact (Int.ofNat_tdiv _ _).symm
  have hw : IntKind.i64.wrap (q : Int) = (q : Int) := by rw [IntKind.wrap_i64]; omega
  have hz : ((n1 : Int) == 0) = false := by simp; omega
  have hI0 : (0 : Int) < (n1 : Int) := by omega
  have hb0 : decide ((0 : Int) < (n1 : Int)) = true := decide_eq_true hI0
  have hbn : decide (0 < n1) = true := decide_eq_true h0
  have hI : (q : Int) < (n2 : Int) := by omega
  have hb : decide ((q : Int) < (n2 : Int)) = true := decide_eq_true hI
  clear hq h
  go_enter Try.func16, Try.ntmps16
  go_wp2_with fail
  go_ret2
  exact ⟨rfl, Below.refl _ _⟩
set_option maxHeartbeats 400000 in
theorem and_none (A1 A2 : Option Addr) (c1 n2 c2 : Nat) (w : World) :
    Calls Try.prog 16 #[.slice A1 0 c1, .slice A2 n2 c2] w fun e w' => e = .returned (.tuple #[.slice none 0 0, .int .i64 0]) ∧ Below w.heap.size w w' := by
  go_enter Try.func16, Try.ntmps16
  go_wp2_with fail
  go_loopw [6, 24] (fun s6 i wr => i = .int .i64 0 ∧ s6 = .slice none 0 0 ∧ Below w.heap.size w wr) (fun _ _ _ => 0)
  case atStart => exact ⟨rfl, rfl, Below.refl _ _⟩
  case round =>
    obtain ⟨rfl, rfl, hb⟩ := hrel
    go_wp2_with fail
    go_ret2
    exact ⟨rfl, hb⟩
set_option maxHeartbeats 4000000 in
theorem and_any (A1 A2 : Option Addr) (n1 c1 n2 c2 : Nat) (ms ns : List Mt) (HN : Hid (n1 = ms.length ∧ n2 = ns.length)) (h0 : 0 < n1) (hN : n1 * n2 ≤ 400) (hn1 : n1 ≤ 1000000) (HSZ : Hid (smM ms ∧ smM ns)) (w : World) (h1 : MS w w.heap.size A1 ms) (h2 : MS w w.heap.size A2 ns) :
    Calls Try.prog 16 #[.slice A1 n1 c1, .slice A2 n2 c2] w fun e w' => ∃ v zs, e = .returned (.tuple #[v, .int .i64 0]) ∧ MK w w' v zs (andL ms ns) := by
  obtain ⟨q, hq⟩ : ∃ q, q = 400 / n1 := ⟨_, rfl⟩
  have hqn : n2 ≤ q := by rw [hq]; exact (Nat.le_div_iff_mul_le h0).2 (by rw [Nat.mul_comm]; exact hN)
  have hq4 : q ≤ 400 := by rw [hq]; exact Nat.div_le_self _ _
  have hd : (400 : Int).tdiv (n1 : Int) = (q : Int) := by rw [hq]; exact (Int.ofNat_tdiv _ _).symm
  have hw : IntKind.i64.wrap (q : Int) = (q : Int) := by rw [IntKind.wrap_i64]; omega
  have hz : ((n1 : Int) == 0) = false := by simp; omega
  have hI0 : (0 : Int) < (n1 : Int) := by omega
  have hb0 : decide ((0 : Int) < (n1 : Int)) = true := decide_eq_true hI0
  have hbn : decide (0 < n1) = true := decide_eq_true h0
  have hI : ¬ (q : Int) < (n2 : Int) := by omega
  have hb : decide ((q : Int) < (n2 : Int)) = false := decide_eq_false hI
  have HN4 := Lib.hid hN
  have HA1 := Lib.hid h1
  have HA2 := Lib.hid h2
  have HM0 := Lib.hid (MK.nil w)
  clear hq hN h1 h2
  go_enter Try.func16, Try.ntmps16
  go_wp2_with fail
  go_loopw [6, 24] (fun s6 i wr => ∃ (k : Nat) (v : Value) (zs : List (Value × Value)), k ≤ n1 ∧ i = .int .i64 k ∧ v = s6 ∧ Hid (MK w wr v zs (andL (ms.take k) ns))) (fun _ i _ => n1 - (intOf i).toNat)
  case atStart => exact ⟨0, _, [], Nat.zero_le _, rfl, rfl, HM0⟩
  case round =>
    obtain ⟨k, v, zs, hk, rfl, rfl, HM⟩ := hrel
    by_cases hlt : k < n1
    · have hkl : k < ms.length := by rw [← HN.out.1]; exact hlt
      have HLT := Lib.hid hlt
      obtain ⟨b, o, z0, z1, rfl, hb1, e0, e1, y0, y1⟩ := (HA1.out.below HM.out.kb).at_ k hkl
      obtain ⟨S0, d0, rfl, _⟩ := id y0
      obtain ⟨S1, d1, rfl, _⟩ := id y1
      have HSK := HSZ.out.1 _ (List.getElem_mem hkl)
      have HX1 : Hid (andL (ms.take (k + 1)) ns = andL (ms.take k) ns ++ ns.map (joinM ms[k])) := by show _ = _; rw [List.take_succ_eq_append_getElem hkl, andL_snoc]
      obtain ⟨m, hm⟩ : ∃ m, m = ms[k] := ⟨_, rfl⟩
      rw [← hm] at e0 e1 y0 y1 HSK HX1
      obtain ⟨l0, hl0⟩ : ∃ l, l = m.1.length := ⟨_, rfl⟩
      obtain ⟨l1, hl1⟩ : ∃ l, l = m.2.length := ⟨_, rfl⟩
      rw [← hl0] at e0 y0 HSK
      rw [← hl1] at e1 y1 HSK
      have bA : Below wr.heap.size wr (wr.alloc (.cells #[.slice S0 l0 d0, .slice S1 l1 d1] 34)) := (Below.refl _ _).alloc (Nat.le_refl _) _
      have HM8 := Lib.hid (HM.out.below bA)
      have HD : Hid (∃ D, D = wr.heap.size ∧ Bx2 (wr.alloc (.cells #[.slice S0 l0 d0, .slice S1 l1 d1] 34)) D (.slice S0 l0 d0) (.slice S1 l1 d1) v) := ⟨_, rfl, (box2 wr _ _ _).1, (box2 wr _ _ _).2, fun e => by
        obtain ⟨_, _, _, _, _, _, hob⟩ := own_form HM.out.own
        have := (hob _ e).2
        omega⟩
      obtain ⟨D, hD, HDB⟩ := HD.out
      have HDB := Lib.hid HDB
      have HY : Hid (SV wr wr.heap.size (.slice S0 l0 d0) m.1 ∧ SV wr wr.heap.size (.slice S1 l1 d1) m.2 ∧ At (fun b => b < w.heap.size) (.slice S0 l0 d0) ∧ At (fun b => b < w.heap.size) (.slice S1 l1 d1)) := ⟨y0.more HM.out.kb.size, y1.more HM.out.kb.size, y0.lt, y1.lt⟩
      have HYW : Hid (∀ W, Below w.heap.size w W → SV W W.heap.size (.slice S0 l0 d0) m.1 ∧ SV W W.heap.size (.slice S1 l1 d1) m.2) := fun W hW =>
        ⟨(HY.out.1.move HY.out.2.2.1 fun g g1 _ => ⟨(hW.block g g1).trans (HM.out.kb.block g g1).symm, by have := hW.size; omega⟩), (HY.out.2.1.move HY.out.2.2.2 fun g g1 _ => ⟨(hW.block g g1).trans (HM.out.kb.block g g1).symm, by have := hW.size; omega⟩)⟩
      have wk : IntKind.i64.wrap ((k : Int) + 1) = (k : Int) + 1 := by rw [IntKind.wrap_i64]; omega
      obtain ⟨W8, hW8⟩ : ∃ W8, wr.alloc (.cells #[.slice S0 l0 d0, .slice S1 l1 d1] 34) = W8 := ⟨_, rfl⟩
      rw [hW8] at HM8 HDB
      have HW8 := Lib.hid hW8
      clear bA y0 y1 hm hb1 HD hW8 hl0 hl1
      go_wp2_with fail
      rw [← hD, HW8.out]
      clear hD HW8
      go_loopw [6, 30] (fun s6 i wq => ∃ (j : Nat) (v : Value) (zs : List (Value × Value)), j ≤ n2 ∧ i = .int .i64 j ∧ v = s6 ∧ Hid (MK w wq v zs (andL (ms.take k) ns ++ (ns.take j).map (joinM m))) ∧ Hid (Bx2 wq D (.slice S0 l0 d0) (.slice S1 l1 d1) v)) (fun _ i _ => n2 - (intOf i).toNat)
      case atStart => exact ⟨0, _, _, Nat.zero_le _, rfl, rfl, by simpa using HM8, HDB⟩
      case round =>
        obtain ⟨j, u, ys, hj, rfl, rfl, HQ, HBX⟩ := hrel
        by_cases hlj : j < n2
        · have hjl : j < ns.length := by rw [← HN.out.2]; exact hlj
          have HLJ := Lib.hid hlj
          obtain ⟨g, p, z0, z1, rfl, hg1, i0, i1, t0, t1⟩ := (HA2.out.below HQ.out.kb).at_ j hjl
          obtain ⟨R0, r0, rfl, _⟩ := id t0
          obtain ⟨R1, r1, rfl, _⟩ := id t1
          have HSJ := HSZ.out.2 _ (List.getElem_mem hjl)
          have HXJ : Hid ((ns.take (j + 1)).map (joinM m) = (ns.take j).map (joinM m) ++ [joinM m ns[j]]) := by show _ = _; rw [List.take_succ_eq_append_getElem hjl, List.map_append]; rfl
          obtain ⟨y, hy⟩ : ∃ y, y = ns[j] := ⟨_, rfl⟩
          rw [← hy] at i0 i1 t0 t1 HSJ HXJ
          obtain ⟨k0, hk0⟩ : ∃ l, l = y.1.length := ⟨_, rfl⟩
          obtain ⟨k1, hk1⟩ : ∃ l, l = y.2.length := ⟨_, rfl⟩
          rw [← hk0] at i0 t0 HSJ
          rw [← hk1] at i1 t1 HSJ
          obtain ⟨NZ, hNZ⟩ : ∃ NZ, NZ = ys.length := ⟨_, rfl⟩
          have hNZ4 : NZ ≤ 400 := by
            have h1 : ys.length = k * n2 + j := by rw [HQ.out.mz.len, List.length_append, andL_len, List.length_map, List.length_take, List.length_take, ← HN.out.1, ← HN.out.2]; rw [Nat.min_eq_left (by omega), Nat.min_eq_left (by omega)]
            have h2 : (k + 1) * n2 ≤ n1 * n2 := Nat.mul_le_mul_right _ HLT.out
            rw [Nat.add_mul] at h2
            have := HN4.out
            omega
          have HNZ := Lib.hid hNZ
          have bB : Below wr.heap.size wr (wr.alloc (.cells #[.slice R0 k0 r0, .slice R1 k1 r1] 34)) := (Below.refl _ _).alloc (Nat.le_refl _) _
          have HBB := Lib.hid bB
          have hkw := HQ.out.kb.trans (bB.mono HQ.out.kb.size)
          obtain ⟨v0, v1⟩ := HYW.out _ hkw
          have KW := Lib.hid (with_any S0 S1 R0 R1 l0 d0 l1 d1 k0 r0 k1 r1 (l0 + k0) (l1 + k1) m y ⟨rfl, rfl⟩ ⟨by omega, by omega⟩ (wr.alloc (.cells #[.slice R0 k0 r0, .slice R1 k1 r1] 34)) v0 v1 ((t0.more HQ.out.kb.size).up bB) ((t1.more HQ.out.kb.size).up bB))
          obtain ⟨W9, hW9⟩ : ∃ W9, wr.alloc (.cells #[.slice R0 k0 r0, .slice R1 k1 r1] 34) = W9 := ⟨_, rfl⟩
          have HBX9 := Lib.hid (HBX.out.below bB)
          have x0 := HBX9.out.c0
          have x1 := HBX9.out.c1
          rw [hW9] at KW HBB HBX9
          have HW9 := Lib.hid hW9
          obtain ⟨N0, hN0⟩ : ∃ N, N = l0 + k0 := ⟨_, rfl⟩
          obtain ⟨N1, hN1⟩ : ∃ N, N = l1 + k1 := ⟨_, rfl⟩
          rw [← hN0, ← hN1] at KW
          have wj : IntKind.i64.wrap ((j : Int) + 1) = (j : Int) + 1 := by have := HLJ.out; rw [IntKind.wrap_i64]; omega
          clear bB t0 t1 hy hk0 hk1 hg1 hkw v0 v1 hW9 hN0 hN1 hNZ HSJ
          go_wp2_with fail
          rw [HW9.out]
          with_reducible refine KW.out.mono ?_
          rintro e w5 ⟨T0, g0, T1, g1', rfl, s0, s1, b5, f0, f1⟩
          have hb5 := HBB.out.trans (b5.mono HBB.out.size)
          obtain ⟨X5, hX5⟩ : ∃ X, w5.alloc (.cells #[.slice T0 N0 g0, .slice T1 N1 g1'] 34) = X := ⟨_, rfl⟩
          have bX5 : Below w5.heap.size w5 X5 := by rw [← hX5]; exact (Below.refl _ _).alloc (Nat.le_refl _) _
          have HCN : Hid (CS X5 X5.heap.size (some ⟨w5.heap.size, 0, none⟩) [.slice T0 N0 g0, .slice T1 N1 g1']) := by
            have h := cells_new w5 #[.slice T0 N0 g0, .slice T1 N1 g1'] 34 X5.heap.size (by rw [← hX5]; simp)
            rw [hX5] at h
            exact h
          have HX5 := Lib.hid hX5
          have hb6 := hb5.trans (bX5.mono hb5.size)
          have HB6 := Lib.hid hb6
          have HOX : Hid (X5.ownsRow w.heap.size 34 2 u NZ (zC ys)) := by have := own_below HQ.out.own hb6; rw [← HNZ.out] at this; exact this
          have HS0 := Lib.hid (s0.up bX5)
          have HS1 := Lib.hid (s1.up bX5)
          have HF := Lib.hid (And.intro (f0.le HBB.out.size) (f1.le HBB.out.size))
          have HBX6 := Lib.hid ((HBX9.out.below b5).below bX5)
          have hbs : w.heap.size ≤ X5.heap.size := by have := HQ.out.kb.size; have := hb6.size; omega
          clear hX5 bX5 s0 s1 f0 f1 b5 hb5 hb6 KW x0 x1
          go_wp2_with (at_builtin; go_loud (rw [HX5.out]; refine wpList_appR elMt X5 rfl (.tmp 34) (.tmp 38) rfl w.heap.size u NZ (zC ys) rfl HOX.out (some ⟨w5.heap.size, 0, none⟩) 1 1 X5.heap.size [.slice T0 N0 g0, .slice T1 N1 g1'] rfl rfl (fun u hu => by simp at hu; rcases hu with rfl | rfl <;> rfl) HCN.out (NZ + 1) rfl (by omega) hbs ?_; intro v4 w4 hown4 hg4 hv4; rw [HNZ.out] at hown4; have HM4 := Lib.hid (HQ.out.app HB6.out (.slice T0 N0 g0, .slice T1 N1 g1') (joinM m y) HS0.out HS1.out HF.out.1 HF.out.2 hown4 hg4 hv4); have HBX4 := Lib.hid (HBX6.out.grown hg4 hv4); clear hown4 hg4 hv4))
          rw [List.append_assoc, ← HXJ.out] at HM4
          exact ⟨⟨j + 1, v4, _, HLJ.out, by go_num, rfl, HM4, HBX4⟩, by have := HLJ.out; simp [intOf]; omega⟩
        · have hje : j = n2 := by omega
          have HF : Hid (MK w wr u ys (andL (ms.take (k + 1)) ns)) := by
            have h := HQ.out
            have e : ns.take j = ns := List.take_of_length_le (by rw [← HN.out.2]; omega)
            rw [e, ← HX1.out] at h
            exact h
          have hjn : (n2 : Int) = (j : Int) := by omega
          have hji : ¬ (j : Int) < (n2 : Int) := by omega
          clear hje hjn
          go_wp2_with fail
          exact ⟨⟨k + 1, u, ys, HLT.out, by go_num, rfl, HF⟩, by have := HLT.out; simp [intOf]; omega⟩
    · obtain rfl : k = n1 := by omega
      have HF : Hid (MK w wr v zs (andL ms ns)) := by have h := HM.out; rw [List.take_of_length_le (by rw [HN.out.1]; exact Nat.le_refl _)] at h; exact h
      go_wp2_with fail
      go_ret2
      exact ⟨_, _, rfl, HF.out⟩
end Go.Proofs.Ytcgoeokocabelaa
