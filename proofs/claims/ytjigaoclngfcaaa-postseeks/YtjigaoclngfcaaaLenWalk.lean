/- math/bits.Len64's and vint.length's contracts. -/
import Derived.Test.YtjigaoclngfcaaaChecked
import Derived.Test.YtjigaoclngfcaaaVb
import Derived.Test.YtjigaoclngfcaaaMem
import Derived.Lib.BitFns
import Derived.WalkKit
import Derived.WalkSpells
import Derived.Deep.Light
namespace Go.Proofs.Ytjigaoclngfcaaa
open Go.RowKit
set_option maxRecDepth 100000

theorem len_parts (x : Int) (h0 : 0 ≤ x) (h1 : x ≤ 18446744073709551615) :
    (x ≤ 255) ∨ (256 ≤ x ∧ x ≤ 65535 ∧ 0 ≤ x / 256 ∧ x / 256 ≤ 255) ∨ (65536 ≤ x ∧ x < 16777216 ∧ x < 4294967296 ∧ 0 ≤ x / 65536 ∧ x / 65536 ≤ 255) ∨
    (16777216 ≤ x ∧ x < 4294967296 ∧ 256 ≤ x / 65536 ∧ 0 ≤ x / 65536 / 256 ∧ x / 65536 / 256 ≤ 255) ∨
    (4294967296 ≤ x ∧ x < 1099511627776 ∧ 0 ≤ x / 4294967296 ∧ x / 4294967296 ≤ 255) ∨
    (1099511627776 ≤ x ∧ x < 281474976710656 ∧ 256 ≤ x / 4294967296 ∧ x / 4294967296 < 65536 ∧ 0 ≤ x / 4294967296 / 256 ∧ x / 4294967296 / 256 ≤ 255) ∨
    (281474976710656 ≤ x ∧ x < 72057594037927936 ∧ 65536 ≤ x / 4294967296 ∧ x / 4294967296 / 65536 < 256 ∧ 0 ≤ x / 4294967296 / 65536 ∧ x / 4294967296 / 65536 ≤ 255) ∨
    (72057594037927936 ≤ x ∧ 65536 ≤ x / 4294967296 ∧ 256 ≤ x / 4294967296 / 65536 ∧ 0 ≤ x / 4294967296 / 65536 / 256 ∧ x / 4294967296 / 65536 / 256 ≤ 255) := by omega

theorem len_close (x y : Int) (k : Nat) (hk : k ≤ 56) (hy0 : 0 ≤ y) (hy : y ≤ 255) (e : Lib.bitLen x.toNat = k + Lib.bitLen y.toNat) : wrap64 ((k : Int) + wrap64 (Lib.len8 y)) = (Lib.bitLen x.toNat : Int) := by
  have l := Lib.bitLen_le8' y hy0 hy
  rw [Lib.len8_of y hy0 hy, e]
  unfold wrap64
  omega
theorem len_close0 (x : Int) (hy0 : 0 ≤ x) (hy : x ≤ 255) : wrap64 (wrap64 (Lib.len8 x)) = (Lib.bitLen x.toNat : Int) := by
  have l := Lib.bitLen_le8' x hy0 hy
  rw [Lib.len8_of x hy0 hy]
  unfold wrap64
  omega

set_option maxHeartbeats 1000000 in
theorem len64_any (x : Int) (w : World) (h0 : 0 ≤ x) (h1 : x ≤ 18446744073709551615) :
    Calls Try.prog 73 #[.int .u64 x] w fun e w' => e = .returned (.int .i64 (Lib.bitLen x.toNat)) ∧ w = w' := by
  rcases len_parts x h0 h1 with h | ⟨ha, hb, hc, hd⟩ | ⟨ha, hb, he, hc, hd⟩ | ⟨ha, hb, he, hc, hd⟩ | ⟨ha, hb, hc, hd⟩ | ⟨ha, hb, he, hf, hc, hd⟩ | ⟨ha, hb, he, hf, hc, hd⟩ | ⟨ha, hb, he, hc, hd⟩
  · go_enter Try.func73, Try.ntmps73
    go_wp2
    go_ret
    exact ⟨ret_int (len_close0 x h0 h), rfl⟩
  · go_enter Try.func73, Try.ntmps73
    go_wp2
    go_ret
    exact ⟨ret_int (len_close x _ 8 (by decide) hc hd (by rw [Lib.bitLen_shift8 x.toNat (by omega) (by omega)]; congr 2; omega)), rfl⟩
  · go_enter Try.func73, Try.ntmps73
    go_wp2
    go_ret
    exact ⟨ret_int (len_close x _ 16 (by decide) hc hd (by rw [Lib.bitLen_shift16 x.toNat (by omega) (by omega)]; congr 2; omega)), rfl⟩
  · go_enter Try.func73, Try.ntmps73
    go_wp2
    go_ret
    exact ⟨ret_int (len_close x _ 24 (by decide) hc hd (by rw [Lib.bitLen_shift24 x.toNat (by omega) (by omega)]; congr 2; omega)), rfl⟩
  · go_enter Try.func73, Try.ntmps73
    go_wp2
    go_ret
    exact ⟨ret_int (len_close x _ 32 (by decide) hc hd (by rw [Lib.bitLen_shift32 x.toNat (by omega) (by omega)]; congr 2; omega)), rfl⟩
  · go_enter Try.func73, Try.ntmps73
    go_wp2
    go_ret
    exact ⟨ret_int (len_close x _ 40 (by decide) hc hd (by rw [Lib.bitLen_shift40 x.toNat (by omega) (by omega)]; congr 2; omega)), rfl⟩
  · go_enter Try.func73, Try.ntmps73
    go_wp2
    go_ret
    exact ⟨ret_int (len_close x _ 48 (by decide) hc hd (by rw [Lib.bitLen_shift48 x.toNat (by omega) (by omega)]; congr 2; omega)), rfl⟩
  · go_enter Try.func73, Try.ntmps73
    go_wp2
    go_ret
    exact ⟨ret_int (len_close x _ 56 (by decide) hc hd (by rw [Lib.bitLen_shift56 x.toNat (by omega) (by omega)]; congr 2; omega)), rfl⟩

theorem length_any (n : Nat) (w : World) (h : n < 18446744073709551616) :
    Calls Try.prog 61 #[.int .u64 n] w fun e w' => e = .returned (.int .i64 (glen n : Nat)) ∧ w = w' := by
  have HG : Hid (max 1 ((Lib.bitLen n + 6) / 7) = glen n) := glen_bits 10 n (lt_128_10 n h) h
  have hb : Lib.bitLen n ≤ 64 := Lib.bitLen_le n 64 (by decide) h
  go_enter Try.func61, Try.ntmps61
  go_wp2_with (go_at_call 73; (with_reducible refine (len64_any _ _ (by omega) (by omega)).mono ?_); rintro e w' ⟨rfl, rfl⟩)
  all_goals
    go_ret
    exact ⟨ret_int (by have := HG.out; omega), rfl⟩
end Go.Proofs.Ytjigaoclngfcaaa
