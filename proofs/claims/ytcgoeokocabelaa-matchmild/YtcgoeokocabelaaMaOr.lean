/- Or. -/
import Derived.Test.YtcgoeokocabelaaMaOf
namespace Go.Proofs.Ytcgoeokocabelaa
open Go.RowKit
set_option maxRecDepth 100000

theorem MK.base {w0 w1 wr : World} {v : Value} {zs : List (Value × Value)} {ms : List Mt} (h : MK w1 wr v zs ms) (hb : Below w0.heap.size w0 w1) : MK w0 wr v zs ms :=
  ⟨own_le h.own hb.size, h.mz, hb.trans (h.kb.mono hb.size), fun z hz => ⟨⟨(h.fz z hz).1.1.le hb.size, (h.fz z hz).1.2.le hb.size⟩, (h.fz z hz).2⟩⟩
def smM (ms : List Mt) : Prop := ∀ m ∈ ms, m.1.length ≤ 20000 ∧ m.2.length ≤ 20000
theorem smM.app {a b : List Mt} (h : smM a) (k : smM b) : smM (a ++ b) := fun m hm => (List.mem_append.1 hm).elim (h m) (k m)
set_option maxHeartbeats 400000 in
theorem or_many (A1 A2 : Option Addr) (n1 c1 n2 c2 : Nat) (h1 : n1 ≤ 1000000) (h2 : n2 ≤ 1000000) (h : 400 < n1 + n2) (w : World) :
    Calls Try.prog 15 #[.slice A1 n1 c1, .slice A2 n2 c2] w fun e w' => e = .returned (.tuple #[.slice none 0 0, .int .i64 23]) ∧ Below w.heap.size w w' := by
  obtain ⟨N, hN⟩ : ∃ N, n1 + n2 = N := ⟨_, rfl⟩
  have hw : IntKind.i64.wrap ((n1 : Int) + (n2 : Int)) = (N : Int) := by rw [IntKind.wrap_i64]; omega
  have hb : decide ((400 : Int) < (N : Int)) = true := decide_eq_true (by omega)
  have hI : (400 : Int) < (N : Int) := by omega
  go_enter Try.func15, Try.ntmps15
  go_wp2_with fail
  go_ret2
  exact ⟨rfl, Below.refl _ _⟩
set_option maxHeartbeats 4000000 in
theorem or_any (A1 A2 : Option Addr) (n1 c1 n2 c2 : Nat) (ms ns : List Mt) (HN : Hid (n1 = ms.length ∧ n2 = ns.length)) (hN : n1 + n2 ≤ 400) (HSZ : Hid (smM (ms ++ ns))) (w : World) (h1 : MS w w.heap.size A1 ms) (h2 : MS w w.heap.size A2 ns) :
    Calls Try.prog 15 #[.slice A1 n1 c1, .slice A2 n2 c2] w fun e w' => ∃ v zs, e = .returned (.tuple #[v, .int .i64 0]) ∧ MK w w' v zs (ms ++ ns) := by
  obtain ⟨zs1, k1, m1⟩ := h1
  obtain ⟨zs2, k2, m2⟩ := h2
  obtain ⟨N, hNe⟩ : ∃ N, n1 + n2 = N := ⟨_, rfl⟩
  have HNE := Lib.hid hNe
  have hw : IntKind.i64.wrap ((n1 : Int) + (n2 : Int)) = (N : Int) := by rw [IntKind.wrap_i64]; omega
  have hI : ¬ (400 : Int) < (N : Int) := by omega
  have hNl : N ≤ 400 := by omega
  have HLN : Hid (N = (ms ++ ns).length) := by show _ = _; rw [List.length_append, ← HN.out.1, ← HN.out.2, hNe]
  obtain ⟨X, hX⟩ : ∃ X, w.alloc (.cells #[.slice A1 n1 c1, .slice A2 n2 c2] 22) = X := ⟨_, rfl⟩
  have bX : Below w.heap.size w X := by rw [← hX]; exact (Below.refl _ _).alloc (Nat.le_refl _) _
  obtain ⟨q0, q1⟩ := box2 w (.slice A1 n1 c1) (.slice A2 n2 c2) 22
  rw [hX] at q0 q1
  have KC := Lib.hid (concat_M w.heap.size A1 A2 n1 c1 n2 c2 w.heap.size N (zC zs1) (zC zs2) HNE ⟨by rw [zC_len, m1.len, HN.out.1], m1.cells⟩ ⟨by rw [zC_len, m2.len, HN.out.2], m2.cells⟩ (by omega) (by omega) X q0 q1 bX.size (k1.below bX) (k2.below bX))
  have HX := Lib.hid hX
  have HBX := Lib.hid bX
  have HM12 : Hid (MZ w w.heap.size (zs1 ++ zs2) (ms ++ ns)) := m1.app m2
  clear hX bX q0 q1 k1 k2 m1 m2 hNe
  go_enter Try.func15, Try.ntmps15
  go_wp2_with fail
  rw [HX.out]
  with_reducible refine KC.out.mono ?_
  rintro e w3 ⟨v3, rfl, hown, b3⟩
  rw [← zC_app] at hown
  obtain ⟨A3, c3, rfl, hc3, hm3, hcs, _⟩ := own_form hown
  have hb3 := HBX.out.trans (b3.mono HBX.out.size)
  have HMS : Hid (MS w3 w3.heap.size A3 (ms ++ ns)) := ⟨_, hcs, HM12.out.up hb3⟩
  have HB3 := Lib.hid hb3
  have HM0 := Lib.hid (MK.nil w3)
  clear hown hcs b3 hb3 KC
  go_wp2_with fail
  go_loopw [6, 20] (fun s6 i wr => ∃ (k : Nat) (v : Value) (zs : List (Value × Value)), k ≤ N ∧ i = .int .i64 k ∧ v = s6 ∧ Hid (MK w3 wr v zs ((ms ++ ns).take k))) (fun _ i _ => N - (intOf i).toNat)
  case atStart => exact ⟨0, _, [], Nat.zero_le _, rfl, rfl, HM0⟩
  case round =>
    obtain ⟨k, v, zs, hk, rfl, rfl, HM⟩ := hrel
    have HZ : Hid (zs.length = k) := by show _ = _; rw [HM.out.mz.len, List.length_take, ← HLN.out]; omega
    by_cases hlt : k < N
    · have hkl : k < (ms ++ ns).length := by rw [← HLN.out]; exact hlt
      have HLT := Lib.hid hlt
      obtain ⟨b, o, z0, z1, rfl, hb, e0, e1, y0, y1⟩ := (HMS.out.below HM.out.kb).at_ k hkl
      obtain ⟨S0, d0, rfl, _⟩ := id y0
      obtain ⟨S1, d1, rfl, _⟩ := id y1
      have HSK := HSZ.out _ (List.getElem_mem hkl)
      have HX1 : Hid ((ms ++ ns).take (k + 1) = (ms ++ ns).take k ++ [(ms ++ ns)[k]]) := List.take_succ_eq_append_getElem hkl
      obtain ⟨m, hm⟩ : ∃ m, m = (ms ++ ns)[k] := ⟨_, rfl⟩
      rw [← hm] at e0 e1 y0 y1 HSK HX1
      obtain ⟨l0, hl0⟩ : ∃ l, l = m.1.length := ⟨_, rfl⟩
      obtain ⟨l1, hl1⟩ : ∃ l, l = m.2.length := ⟨_, rfl⟩
      have HL01 := Lib.hid (And.intro hl0 hl1)
      rw [← hl0] at e0 y0
      rw [← hl1] at e1 y1
      have bA : Below wr.heap.size wr (wr.alloc (.cells #[.slice S0 l0 d0, .slice S1 l1 d1] 34)) := (Below.refl _ _).alloc (Nat.le_refl _) _
      have KL := Lib.hid (cloned_any (.slice S0 l0 d0) (.slice S1 l1 d1) m ⟨by omega, by omega⟩ (wr.alloc (.cells #[.slice S0 l0 d0, .slice S1 l1 d1] 34)) ((y0.more HM.out.kb.size).up bA) ((y1.more HM.out.kb.size).up bA))
      have HBA := Lib.hid bA
      clear bA y0 y1 hm hl0 hl1 hb HSK
      go_wp2_with fail
      with_reducible refine KL.out.mono ?_
      rintro e w5 ⟨y0, y1, rfl, s0, s1, b5, f0, f1⟩
      obtain ⟨T0, g0, rfl, _⟩ := id s0
      obtain ⟨T1, g1, rfl, _⟩ := id s1
      rw [← HL01.out.1] at s0 f0
      rw [← HL01.out.2] at s1 f1
      rw [← HL01.out.1, ← HL01.out.2]
      have hb5 := HBA.out.trans (b5.mono HBA.out.size)
      obtain ⟨X5, hX5⟩ : ∃ X, w5.alloc (.cells #[.slice T0 l0 g0, .slice T1 l1 g1] 34) = X := ⟨_, rfl⟩
      have bX5 : Below w5.heap.size w5 X5 := by rw [← hX5]; exact (Below.refl _ _).alloc (Nat.le_refl _) _
      have HCN : Hid (CS X5 X5.heap.size (some ⟨w5.heap.size, 0, none⟩) [.slice T0 l0 g0, .slice T1 l1 g1]) := by
        have h := cells_new w5 #[.slice T0 l0 g0, .slice T1 l1 g1] 34 X5.heap.size (by rw [← hX5]; simp)
        rw [hX5] at h
        exact h
      have HX5 := Lib.hid hX5
      have hb6 := hb5.trans (bX5.mono hb5.size)
      have HB6 := Lib.hid hb6
      have HOX : Hid (X5.ownsRow w3.heap.size 34 2 v k (zC zs)) := by have := own_below HM.out.own hb6; rw [HZ.out] at this; exact this
      have HS0 := Lib.hid (s0.up bX5)
      have HS1 := Lib.hid (s1.up bX5)
      have HF := Lib.hid (And.intro (f0.le HBA.out.size) (f1.le HBA.out.size))
      have hbs : w3.heap.size ≤ X5.heap.size := by have := HM.out.kb.size; have := hb6.size; omega
      clear hX5 bX5 s0 s1 f0 f1 b5 hb5 hb6 KL
      go_wp2_with (at_builtin; go_loud (rw [HX5.out]; refine wpList_appR elMt X5 rfl (.tmp 24) (.tmp 27) rfl w3.heap.size v k (zC zs) rfl HOX.out (some ⟨w5.heap.size, 0, none⟩) 1 1 X5.heap.size [.slice T0 l0 g0, .slice T1 l1 g1] rfl rfl (fun u hu => by simp at hu; rcases hu with rfl | rfl <;> rfl) HCN.out (k + 1) rfl (by omega) hbs ?_; intro v4 w4 hown4 hg4 hv4; rw [← HZ.out] at hown4; have HM4 := Lib.hid (HM.out.app HB6.out (.slice T0 l0 g0, .slice T1 l1 g1) m HS0.out HS1.out HF.out.1 HF.out.2 hown4 hg4 hv4); clear hown4 hg4 hv4))
      rw [← HX1.out] at HM4
      exact ⟨⟨k + 1, v4, _, HLT.out, by go_num, rfl, HM4⟩, by have := HLT.out; simp [intOf]; omega⟩
    · obtain rfl : k = N := by omega
      have HF : Hid (MK w wr v zs (ms ++ ns)) := by have h := HM.out; rw [List.take_of_length_le (by rw [HLN.out]; exact Nat.le_refl _)] at h; exact h.base HB3.out
      go_wp2_with fail
      go_ret2
      exact ⟨_, _, rfl, HF.out⟩
end Go.Proofs.Ytcgoeokocabelaa
