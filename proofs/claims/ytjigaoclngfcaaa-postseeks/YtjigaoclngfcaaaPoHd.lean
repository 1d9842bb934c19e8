/- post.Encode as the laws call it; head. -/
import Derived.Test.YtjigaoclngfcaaaPoEnc
namespace Go.Proofs.Ytjigaoclngfcaaa
open Go.RowKit
set_option maxRecDepth 100000

theorem enc_ok (A : Option Addr) (N c : Nat) (hs : List HI) (HN : Hid (N = hs.length ∧ ∀ h ∈ hs, h.2.length ≤ 6000)) (hN : N ≤ 1100) (hNc : N ≤ c) (w : World) (hI : HS w w.heap.size A hs) (hr : Hid (rgt (-1) hs = true)) :
    Calls Try.prog 16 #[.slice A N c] w fun e w' => ∃ v, e = .returned (.tuple #[v, .int .i64 0]) ∧ Own8 w' w.heap.size 5 v (eP hs) ∧ Below w.heap.size w w' :=
  (callsIn_wide (n := 3)).1 (encode_in 3 (Nat.le_refl _) A N c hs HN hN hNc w hI hr)
theorem enc_bad (A : Option Addr) (N c : Nat) (hs : List HI) (HN : Hid (N = hs.length)) (hN : N ≤ 100000) (w : World) (hI : HS w w.heap.size A hs) (hr : Hid (rgt (-1) hs = false)) :
    Calls Try.prog 16 #[.slice A N c] w fun e w' => e = .returned (.tuple #[.slice none 0 0, .int .i64 1]) ∧ Below w.heap.size w w' := by
  have KR := Lib.hid (right_any A N c hs HN (by omega) w hI)
  rw [hr.out] at KR
  clear hI
  go_enter Try.func16, Try.ntmps16
  go_wp2_with fail
  with_reducible refine KR.out.mono ?_
  rintro e w1 ⟨rfl, b1⟩
  go_wp2_with fail
  go_ret2
  exact ⟨rfl, b1⟩
theorem enc_one (n : Nat) (h : n < 128) : enc n = [UInt8.ofNat n] := by
  unfold enc
  rw [show n / 128 = 0 by omega, hiB_zero, show n % 128 = n by omega]
  rfl
theorem eP_head : eP [(0, [1, 3])] = [1, 0, 4, 0, 2, 1, 2] := by
  have h1 : eBl 0 (blk [(0, [1, 3])] 0) = [0, 2, 1, 2] := by
    show enc (df 0 0) ++ (enc 2 ++ (enc (df 1 0) ++ (enc (df 3 1) ++ []))) ++ [] = _
    rw [show df 0 0 = 0 by decide, show df 1 0 = 1 by decide, show df 3 1 = 2 by decide, enc_one 0 (by decide), enc_one 1 (by decide), enc_one 2 (by decide)]
    rfl
  show enc 1 ++ (enc (df (docOf 0 (blk [(0, [1, 3])] 0)) 0) ++ (enc (eBl 0 (blk [(0, [1, 3])] 0)).length ++ eBl 0 (blk [(0, [1, 3])] 0)) ++ []) = _
  rw [h1, show docOf 0 (blk [(0, [1, 3])] 0) = 0 from rfl, show df 0 0 = 0 by decide]
  show enc 1 ++ (enc 0 ++ (enc 4 ++ [0, 2, 1, 2]) ++ []) = _
  rw [enc_one 0 (by decide), enc_one 1 (by decide), enc_one 4 (by decide)]
  rfl
set_option maxHeartbeats 2000000 in
theorem head_any (w : World) : Calls Try.prog 14 #[] w fun e w' => e = .returned (.bool true) ∧ Below w.heap.size w w' := by
  obtain ⟨X, hX⟩ : ∃ X, (w.alloc (.cells #[.int .i64 1, .int .i64 3] 3)).alloc (.cells #[.int .i64 0, .slice (some ⟨w.heap.size, 0, none⟩) 2 2] 37) = X := ⟨_, rfl⟩
  have b0 : Below w.heap.size w (w.alloc (.cells #[.int .i64 1, .int .i64 3] 3)) := (Below.refl _ _).alloc (Nat.le_refl _) _
  have s0 : (w.alloc (.cells #[.int .i64 1, .int .i64 3] 3)).heap.size = w.heap.size + 1 := by simp
  have b1 : Below (w.heap.size + 1) (w.alloc (.cells #[.int .i64 1, .int .i64 3] 3)) X := by rw [← hX, ← s0]; exact (Below.refl _ _).alloc (Nat.le_refl _) _
  have sX : X.heap.size = w.heap.size + 2 := by rw [← hX]; simp
  have HB := Lib.hid (b0.trans (b1.mono (by omega)))
  have hI : HS X X.heap.size (some ⟨w.heap.size + 1, 0, none⟩) [(0, [1, 3])] := fun _ => ⟨w.heap.size + 1, 0, rfl, by omega, fun k hk => by
    obtain rfl : k = 0 := by simp at hk; omega
    have z0 := new_cells (w.alloc (.cells #[.int .i64 1, .int .i64 3] 3)) #[.int .i64 0, .slice (some ⟨w.heap.size, 0, none⟩) 2 2] 37 (0, 0) 0 _ rfl
    have z1 := new_cells (w.alloc (.cells #[.int .i64 1, .int .i64 3] 3)) #[.int .i64 0, .slice (some ⟨w.heap.size, 0, none⟩) 2 2] 37 (0, 0) 1 _ rfl
    rw [hX, s0, add_addr] at z0 z1
    refine ⟨z0, some ⟨w.heap.size, 0, none⟩, 2, z1, Nat.le_refl _, by decide, fun _ => ⟨w.heap.size, 0, rfl, by omega, fun j u hu => ?_⟩⟩
    have z := new_cells w #[.int .i64 1, .int .i64 3] 3 (0, 0) j u hu
    rw [add_addr] at z
    exact (b1.cell (p := ⟨w.heap.size, 0 + j, none⟩) (by show w.heap.size < _; omega)).trans z⟩
  have KE := Lib.hid (enc_ok (some ⟨w.heap.size + 1, 0, none⟩) 1 1 [(0, [1, 3])] ⟨rfl, by decide⟩ (by decide) (Nat.le_refl _) X hI (by show _ = _; decide))
  rw [eP_head] at KE
  clear b0 s0 b1 hI
  go_enter Try.func14, Try.ntmps14
  go_wp2_with fail
  with_reducible refine KE.out.mono ?_
  rintro e w1 ⟨v, rfl, o1, b2⟩
  obtain ⟨A1, c1, rfl, _, _, hbs, _⟩ := o1.form
  have hcv : (convert 25 9 (.slice A1 7 c1)).run Try.prog w1 = .ok (.string ⟨#[1, 0, 4, 0, 2, 1, 2]⟩) w1 := hbs.conv 7 c1 rfl
  have B2 := Lib.hid (HB.out.trans (b2.mono HB.out.size))
  clear o1 b2 hbs
  go_wp2_with fail
  go_ret
  exact ⟨rfl, B2.out⟩
end Go.Proofs.Ytjigaoclngfcaaa
