/- Of. -/
import Derived.Test.YtafbjadlklcicaaMaWi
namespace Go.Proofs.Ytafbjadlklcicaa
open Go.RowKit
set_option maxRecDepth 100000

theorem cells_new (w : World) (cs : Array Value) (t : TypeId) (B : Nat) (hB : w.heap.size < B) : CS (w.alloc (.cells cs t)) B (some ⟨w.heap.size, 0, none⟩) cs.toList := fun _ => ⟨w.heap.size, 0, rfl, hB, fun k u hu => by
  have h := new_cells w cs t (0, 0) k u hu
  rw [add_addr] at h
  exact h⟩
def ofL (l : List Sp) : List Mt := l.map fun s => ([s], [])
set_option maxHeartbeats 2000000 in
theorem of_any (A : Option Addr) (n c : Nat) (l : List Sp) (HN : Hid (n = l.length)) (hn : n ≤ 100000) (w : World) (h : CS w w.heap.size A (spCs l)) :
    Calls Try.prog 32 #[.slice A n c] w fun e w' => ∃ v zs, e = .returned v ∧ MK w w' v zs (ofL l) := by
  have HC := Lib.hid h
  have HM0 := Lib.hid (MK.nil w)
  clear h
  go_enter Try.func32, Try.ntmps32
  go_wp2_with fail
  go_loopw [3, 8] (fun s3 i wr => ∃ (k : Nat) (v : Value) (zs : List (Value × Value)), k ≤ n ∧ i = .int .i64 k ∧ v = s3 ∧ Hid (MK w wr v zs (ofL (l.take k)))) (fun _ i _ => n - (intOf i).toNat)
  case atStart => exact ⟨0, _, [], Nat.zero_le _, rfl, rfl, HM0⟩
  case round =>
    obtain ⟨k, v, zs, hk, rfl, rfl, HM⟩ := hrel
    have HZ : Hid (zs.length = k) := by show _ = _; rw [HM.out.mz.len, ofL, List.length_map, List.length_take, ← HN.out]; omega
    by_cases hlt : k < n
    · have hkl : k < l.length := by rw [← HN.out]; exact hlt
      have HLT := Lib.hid hlt
      obtain ⟨b, o, rfl, hb, hc⟩ := (HC.out.below HM.out.kb) (by rw [spCs_len]; omega)
      obtain ⟨c0, c1, c2, c3⟩ := spCs_at l k hkl
      have e0 := hc _ _ c0
      have e1 := hc _ _ c1
      have e2 := hc _ _ c2
      have e3 := hc _ _ c3
      rw [← Nat.add_assoc] at e1 e2 e3
      have HX : Hid (ofL (l.take (k + 1)) = ofL (l.take k) ++ [([l[k]], [])]) := by show _ = _; rw [List.take_succ_eq_append_getElem hkl]; unfold ofL; rw [List.map_append]; rfl
      obtain ⟨s, hs⟩ : ∃ s, s = l[k] := ⟨_, rfl⟩
      rw [← hs] at e0 e1 e2 e3 HX
      obtain ⟨f, t, p, q⟩ := s
      simp only at e0 e1 e2 e3
      obtain ⟨X1, hX1⟩ : ∃ X, wr.alloc (.cells #[.int .i64 f, .int .i64 t, .int .i64 p, .int .i64 q] 26) = X := ⟨_, rfl⟩
      obtain ⟨X2, hX2⟩ : ∃ X, X1.alloc (.cells #[.int .i64 f, .int .i64 t, .int .i64 p, .int .i64 q] 26) = X := ⟨_, rfl⟩
      obtain ⟨X, hX⟩ : ∃ X, X2.alloc (.cells #[.slice (some ⟨wr.heap.size + 1, 0, none⟩) 1 1, .slice none 0 0] 60) = X := ⟨_, rfl⟩
      have s1 : X1.heap.size = wr.heap.size + 1 := by rw [← hX1]; simp
      have s2 : X2.heap.size = wr.heap.size + 1 + 1 := by rw [← hX2]; simp [s1]
      have s3 : X.heap.size = wr.heap.size + 3 := by rw [← hX]; simp [s2]
      have b1 : Below wr.heap.size wr X1 := by rw [← hX1]; exact (Below.refl _ _).alloc (Nat.le_refl _) _
      have b2 : Below X1.heap.size X1 X2 := by rw [← hX2]; exact (Below.refl _ _).alloc (Nat.le_refl _) _
      have b3 : Below X2.heap.size X2 X := by rw [← hX]; exact (Below.refl _ _).alloc (Nat.le_refl _) _
      have bX : Below wr.heap.size wr X := b1.trans ((b2.mono b1.size).trans (b3.mono (by omega)))
      have k2 : CS X2 X2.heap.size (some ⟨wr.heap.size + 1, 0, none⟩) (spCs [(f, t, p, q)]) := by
        have h := cells_new X1 #[.int .i64 f, .int .i64 t, .int .i64 p, .int .i64 q] 26 X2.heap.size (by omega)
        rw [hX2, s1] at h
        exact h
      have HS1 : Hid (SV X X.heap.size (.slice (some ⟨wr.heap.size + 1, 0, none⟩) 1 1) [(f, t, p, q)]) := ⟨_, 1, rfl, Nat.le_refl _, by decide, (k2.below b3).more b3.size⟩
      have HCN : Hid (CS X X.heap.size (some ⟨wr.heap.size + 1 + 1, 0, none⟩) [.slice (some ⟨wr.heap.size + 1, 0, none⟩) 1 1, .slice none 0 0]) := by
        have h := cells_new X2 #[.slice (some ⟨wr.heap.size + 1, 0, none⟩) 1 1, .slice none 0 0] 60 X.heap.size (by omega)
        rw [hX, s2] at h
        exact h
      have HX0 : Hid (((wr.alloc (.cells #[.int .i64 f, .int .i64 t, .int .i64 p, .int .i64 q] 26)).alloc (.cells #[.int .i64 f, .int .i64 t, .int .i64 p, .int .i64 q] 26)).alloc (.cells #[.slice (some ⟨wr.heap.size + 1, 0, none⟩) 1 1, .slice none 0 0] 60) = X) := by show _ = _; rw [hX1, hX2, hX]
      have HBX := Lib.hid bX
      have HOX : Hid (X.ownsRow w.heap.size 60 2 v k (zC zs)) := by have := own_below HM.out.own bX; rw [HZ.out] at this; exact this
      have hbs : w.heap.size ≤ X.heap.size := by have := HM.out.kb.size; omega
      clear hX1 hX2 hX s1 s2 s3 b1 b2 b3 bX k2 c0 c1 c2 c3 hc hs hb
      go_wp2_with (at_builtin; go_loud (rw [HX0.out]; refine wpList_appR elMt X rfl (.tmp 12) (.tmp 16) rfl w.heap.size v k (zC zs) rfl HOX.out (some ⟨wr.heap.size + 1 + 1, 0, none⟩) 1 1 X.heap.size [.slice (some ⟨wr.heap.size + 1, 0, none⟩) 1 1, .slice none 0 0] rfl rfl (fun u hu => by simp at hu; rcases hu with rfl | rfl <;> rfl) HCN.out (k + 1) rfl (by omega) hbs ?_; intro v4 w4 hown4 hg4 hv4; rw [← HZ.out] at hown4; have HM4 := Lib.hid (HM.out.app HBX.out (.slice (some ⟨wr.heap.size + 1, 0, none⟩) 1 1, .slice none 0 0) ([(f, t, p, q)], []) HS1.out (SV.nil _ _) (fun a n c e _ => by injection e with e; injection e with e; rw [← e]; exact Nat.le_succ _) (Fr.nil _ _ _) hown4 hg4 hv4); clear hown4 hg4 hv4))
      rw [← HX.out] at HM4
      exact ⟨⟨k + 1, v4, _, HLT.out, by go_num, rfl, HM4⟩, by have := HLT.out; simp [intOf]; omega⟩
    · obtain rfl : k = n := by omega
      have HF : Hid (MK w wr v zs (ofL l)) := by have h := HM.out; rw [List.take_of_length_le (by rw [HN.out]; exact Nat.le_refl _)] at h; exact h
      go_wp2_with fail
      go_ret
      exact ⟨_, _, rfl, HF.out⟩
end Go.Proofs.Ytafbjadlklcicaa
