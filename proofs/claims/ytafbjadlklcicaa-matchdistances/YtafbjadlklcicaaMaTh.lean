/- through: the matches that are let through, whatever function value says so. -/
import Derived.Test.YtafbjadlklcicaaMaOr
import Derived.Test.YtafbjadlklcicaaMaJo
import Derived.Deep.DeepCutAuto
namespace Go.Proofs.Ytafbjadlklcicaa
open Go.RowKit
set_option maxRecDepth 100000

/-- A function value that tells P of spans, and leaves what lies there. -/
def FnP (F : Nat) (cb : Array Value) (P : List Sp → Bool) (M : Nat) (w : World) : Prop :=
  (∀ args W, (callFunc F args).run Try.prog W = .ok (.enter F args) W) ∧
  ∀ W, Below w.heap.size w W → ∀ v l, SV W W.heap.size v l → l.length ≤ M → Calls Try.prog F (#[v] ++ cb) W fun e w' => e = .returned (.bool (P l)) ∧ Below W.heap.size W w'
def thruL (P : List Sp → Bool) (ms : List Mt) : List Mt := ms.filter fun m => P m.1
theorem thruL_snoc (P : List Sp → Bool) (ms : List Mt) (m : Mt) : thruL P (ms ++ [m]) = thruL P ms ++ cond (P m.1) [m] [] := by
  unfold thruL
  rw [List.filter_append]
  refine congrArg _ ?_
  show (match P m.1 with | true => [m] | false => []) = _
  cases P m.1 <;> rfl
set_option maxHeartbeats 4000000 in
theorem through_any (F : Nat) (cb : Array Value) (P : List Sp → Bool) (A : Option Addr) (n c : Nat) (ms : List Mt) (HN : Hid (n = ms.length)) (hn : n ≤ 10000) (HSM : Hid (smM ms)) (w : World) (h : MS w w.heap.size A ms) (hF : Hid (FnP F cb P 20000 w)) :
    Calls Try.prog 36 #[.slice A n c, .func (.func F) #[] cb] w fun e w' => ∃ v zs, e = .returned v ∧ MK w w' v zs (thruL P ms) := by
  have HA := Lib.hid h
  have HM0 := Lib.hid (MK.nil w)
  have HCF := hF.out.1
  clear h
  go_enter Try.func36, Try.ntmps36
  go_wp2_with fail
  go_loopw [5, 10] (fun s5 i wr => ∃ (k : Nat) (v : Value) (zs : List (Value × Value)), k ≤ n ∧ i = .int .i64 k ∧ v = s5 ∧ Hid (MK w wr v zs (thruL P (ms.take k)))) (fun _ i _ => n - (intOf i).toNat)
  case atStart => exact ⟨0, _, [], Nat.zero_le _, rfl, rfl, HM0⟩
  case round =>
    obtain ⟨k, v, zs, hk, rfl, rfl, HM⟩ := hrel
    obtain ⟨A4, c4, rfl, hcap4, hmx4, _, _⟩ := own_form HM.out.own
    by_cases hlt : k < n
    · have hkl : k < ms.length := by rw [← HN.out]; exact hlt
      have HLT := Lib.hid hlt
      have HZ : Hid (zs.length ≤ k) := by
        show _ ≤ _
        rw [HM.out.mz.len]
        exact Nat.le_trans (List.length_filter_le _ _) (by rw [List.length_take]; omega)
      obtain ⟨b, o, z0, z1, rfl, _, e0, e1, y0, y1⟩ := (HA.out.below HM.out.kb).at_ k hkl
      obtain ⟨S0, d0, rfl, _⟩ := id y0
      obtain ⟨S1, d1, rfl, _⟩ := id y1
      have HSK := HSM.out _ (List.getElem_mem hkl)
      have HX : Hid (thruL P (ms.take (k + 1)) = thruL P (ms.take k) ++ cond (P ms[k].1) [ms[k]] []) := by show _ = _; rw [List.take_succ_eq_append_getElem hkl, thruL_snoc]
      obtain ⟨m, hm⟩ : ∃ m, m = ms[k] := ⟨_, rfl⟩
      rw [← hm] at e0 e1 y0 y1 HSK HX
      obtain ⟨l0, hl0⟩ : ∃ l, l = m.1.length := ⟨_, rfl⟩
      obtain ⟨l1, hl1⟩ : ∃ l, l = m.2.length := ⟨_, rfl⟩
      rw [← hl0] at e0 y0 HSK
      rw [← hl1] at e1 y1 HSK
      obtain ⟨X, hX⟩ : ∃ X, wr.alloc (.cells #[.slice S0 l0 d0, .slice S1 l1 d1] 60) = X := ⟨_, rfl⟩
      have bX : Below wr.heap.size wr X := by rw [← hX]; exact (Below.refl _ _).alloc (Nat.le_refl _) _
      obtain ⟨q0, q1⟩ := box2 wr (.slice S0 l0 d0) (.slice S1 l1 d1) 60
      rw [hX] at q0 q1
      have hkb := HM.out.kb.size
      have HY0 := Lib.hid ((y0.more hkb).up bX)
      have HY1 := Lib.hid ((y1.more hkb).up bX)
      obtain ⟨pb, hpb⟩ : ∃ pb, pb = P m.1 := ⟨_, rfl⟩
      have KP : Hid (Calls Try.prog F (#[.slice S0 l0 d0] ++ cb) X fun e w' => e = .returned (.bool pb) ∧ Below X.heap.size X w') := by
        rw [hpb]
        exact hF.out.2 X (HM.out.kb.trans (bX.mono hkb)) _ m.1 HY0.out (by have := HSK.1; omega)
      have HPB := Lib.hid hpb
      have HBX := Lib.hid bX
      have HL0 := Lib.hid hl0
      have HL1 := Lib.hid hl1
      have HXW := Lib.hid hX
      have wk : IntKind.i64.wrap ((k : Int) + 1) = (k : Int) + 1 := by rw [IntKind.wrap_i64]; omega
      clear hX bX hm hl0 hl1 hpb y0 y1
      go_upto_region 5 with fail
      rw [HXW.out]
      go_wp2_with fail
      with_reducible refine KP.out.mono ?_
      rintro e w5 ⟨rfl, b5⟩
      have p0 := (b5.cell (World.block_lt_of_cell? X _ q0)).trans q0
      have p1 := (b5.cell (World.block_lt_of_cell? X _ q1)).trans q1
      have HB5 := Lib.hid (HBX.out.trans (b5.mono HBX.out.size))
      have KC : Hid (Calls Try.prog 69 #[.agg #[.slice S0 l0 d0, .slice S1 l1 d1]] w5 fun e w' => ∃ y0 y1, e = .returned (.agg #[y0, y1]) ∧ SV w' w'.heap.size y0 m.1 ∧ SV w' w'.heap.size y1 m.2 ∧ Below w5.heap.size w5 w' ∧ Fr w5.heap.size y0 ∧ Fr w5.heap.size y1) :=
        cloned_any (.slice S0 l0 d0) (.slice S1 l1 d1) m ⟨by rw [← HL0.out]; have := HSK.1; omega, by rw [← HL1.out]; have := HSK.2; omega⟩ w5 (HY0.out.up b5) (HY1.out.up b5)
      clear q0 q1 b5 KP
      cases pb
      · have HM' : Hid (MK w w5 (.slice A4 zs.length c4) zs (thruL P (ms.take (k + 1)))) := by
          have h := HM.out.below HB5.out
          show MK _ _ _ _ _
          rw [HX.out, ← HPB.out]
          simpa using h
        clear KC
        go_wp2_with fail
        exact ⟨⟨k + 1, _, zs, HLT.out, by go_num, rfl, HM'⟩, by have := HLT.out; simp [intOf]; omega⟩
      · obtain ⟨L, hL⟩ : ∃ L, L = zs.length := ⟨_, rfl⟩
        rw [← hL] at HM HZ ⊢
        have HL := Lib.hid hL
        have hLk := HZ.out
        clear hL
        go_wp2_with fail
        with_reducible refine KC.out.mono ?_
        rintro e w6 ⟨y0, y1, rfl, s0, s1, b6, f0, f1⟩
        obtain ⟨T0, g0, rfl, _⟩ := id s0
        obtain ⟨T1, g1, rfl, _⟩ := id s1
        rw [← HL0.out] at s0 f0 ⊢
        rw [← HL1.out] at s1 f1 ⊢
        obtain ⟨Y, hY⟩ : ∃ Y, w6.alloc (.cells #[.slice T0 l0 g0, .slice T1 l1 g1] 60) = Y := ⟨_, rfl⟩
        have bY : Below w6.heap.size w6 Y := by rw [← hY]; exact (Below.refl _ _).alloc (Nat.le_refl _) _
        have HCN : Hid (CS Y Y.heap.size (some ⟨w6.heap.size, 0, none⟩) [.slice T0 l0 g0, .slice T1 l1 g1]) := by
          have h := cells_new w6 #[.slice T0 l0 g0, .slice T1 l1 g1] 60 Y.heap.size (by rw [← hY]; simp)
          rw [hY] at h
          exact h
        have bwY := HB5.out.trans ((b6.trans (bY.mono b6.size)).mono HB5.out.size)
        have HOY : Hid (Y.ownsRow w.heap.size 60 2 (.slice A4 L c4) L (zC zs)) := by have := own_below HM.out.own bwY; rw [← HL.out] at this; exact this
        have HSY := Lib.hid (And.intro (s0.up bY) (And.intro (s1.up bY) (And.intro (f0.le HB5.out.size) (And.intro (f1.le HB5.out.size) bwY))))
        have hbs : w.heap.size ≤ Y.heap.size := by have := HM.out.kb.size; have := bwY.size; omega
        have HY := Lib.hid hY
        clear s0 s1 f0 f1 b6 bY hY bwY KC
        go_wp2_with (at_builtin; (rw [HY.out]; refine wpList_appR elMt Y rfl (.tmp 18) (.tmp 21) rfl w.heap.size (.slice A4 L c4) L (zC zs) rfl HOY.out (some ⟨w6.heap.size, 0, none⟩) 1 1 Y.heap.size [.slice T0 l0 g0, .slice T1 l1 g1] rfl rfl (fun u hu => by simp at hu; rcases hu with rfl | rfl <;> rfl) HCN.out (L + 1) rfl (by omega) hbs ?_; intro v7 w7 hown7 hg7 hv7; rw [HL.out] at hown7; have HM7 := Lib.hid (HM.out.app HSY.out.2.2.2.2 (.slice T0 l0 g0, .slice T1 l1 g1) m HSY.out.1 HSY.out.2.1 HSY.out.2.2.1 HSY.out.2.2.2.1 hown7 hg7 hv7); clear hown7 hg7 hv7))
        have HM' : Hid (MK w w7 v7 (zs ++ [(.slice T0 l0 g0, .slice T1 l1 g1)]) (thruL P (ms.take (k + 1)))) := by
          show MK _ _ _ _ _
          rw [HX.out, ← HPB.out]
          exact HM7.out
        exact ⟨⟨k + 1, v7, _, HLT.out, by go_num, rfl, HM'⟩, by have := HLT.out; simp [intOf]; omega⟩
    · obtain rfl : k = n := by omega
      have HF : Hid (MK w wr (.slice A4 zs.length c4) zs (thruL P ms)) := by have h := HM.out; rw [List.take_of_length_le (by rw [HN.out]; exact Nat.le_refl _)] at h; exact h
      go_wp2_with fail
      go_ret
      exact ⟨_, _, rfl, HF.out⟩
end Go.Proofs.Ytafbjadlklcicaa
