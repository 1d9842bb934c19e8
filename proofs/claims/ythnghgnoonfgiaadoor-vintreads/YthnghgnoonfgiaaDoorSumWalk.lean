/- vint.Sum's contract: the sum of the bytes, as Crc.lean reckons it; the world stays. -/
import Derived.Test.YthnghgnoonfgiaaDoorChecked
import Derived.Test.YthnghgnoonfgiaaDoorCrc
import Derived.Test.YthnghgnoonfgiaaDoorMem
import Derived.WalkKit
import Derived.WalkSpells
import Derived.Deep.Light
import Derived.Laws.BitsAllLaws
namespace Go.Proofs.YthnghgnoonfgiaaDoor
open Go.RowKit
set_option maxRecDepth 100000

/-- The table in memory. -/
def Tab (w : World) : Prop := ∀ i, i < 16 → w.cell? ⟨0, i, none⟩ = some (.int .u32 (tabN i : Nat))
theorem Tab.below {w w' : World} {B : Nat} (h : Tab w) (hb : Below B w w') (hB : 0 < B) : Tab w' := fun i hi => (hb.cell (p := ⟨0, i, none⟩) hB).trans (h i hi)

theorem and15 (y : Nat) (h : y < 4294967296) : bits .and .u32 (y : Int) 15 = ((lo4 y : Nat) : Int) := by
  have := u32_and_nat y 15 h (by decide)
  rw [nat_mask4] at this
  exact this
theorem xor32 (x y : Nat) (hx : x < 4294967296) (hy : y < 4294967296) : bits .xor .u32 (x : Int) (y : Int) = ((x ^^^ y : Nat) : Int) := u32_xor_nat x y hx hy
theorem half_eq (y : Nat) (h : y < 4294967296) : bits .xor .u32 ((y : Int) / 16) ((tabN (lo4 y) : Nat) : Int) = ((half y : Nat) : Int) := by
  have e : ((y : Int) / 16) = ((y / 16 : Nat) : Int) := by omega
  rw [e, xor32 _ _ (by omega) (tabN_lt _ (lo4_lt y))]
  rfl
theorem xor_byte (x : Nat) (l : List UInt8) (k : Nat) (hx : x < 4294967296) (hk : k < l.length) : bits .xor .u32 (x : Int) (at8 l k % 4294967296) = ((x ^^^ l[k].toNat : Nat) : Int) := by
  have h1 := byte_lt l[k]
  rw [at8_eq l k hk, show ((l[k].toNat : Int) % 4294967296) = (l[k].toNat : Int) by omega, xor32 _ _ hx (by omega)]

theorem not32 (x : Nat) (h : x < 4294967296) : bits .xor .u32 IntKind.u32.max (x : Int) = ((4294967295 - x : Nat) : Int) := by
  rw [show IntKind.u32.max = ((4294967295 : Nat) : Int) from rfl, xor32 _ _ (by decide) h, not_xor x h]

set_option maxHeartbeats 400000 in
theorem sum_some (b o c : Nat) (l : List UInt8) (w : World) (hn : l.length ≤ 1000000) (hT : Tab w) (hc : ∀ k, k < l.length → w.cell? ⟨b, o + k, none⟩ = some (.int .u8 (at8 l k))) :
    Calls Tryd.prog 20 #[.slice (some ⟨b, o, none⟩) l.length c] w fun e w' => e = .returned (.int .u32 (crcN l : Nat)) ∧ w = w' := by
  go_enter Tryd.func20, Tryd.ntmps20
  go_wp2
  go_loop [3, 8] (fun s i => ∃ k : Nat, k ≤ l.length ∧ i = .int .i64 k ∧ s = .int .u32 (crcRun 4294967295 (l.take k) : Nat)) (fun _ i => l.length - (intOf i).toNat)
  case atStart => exact ⟨0, Nat.zero_le _, rfl, rfl⟩
  case round =>
    obtain ⟨k, hk, rfl, rfl⟩ := hrel
    have hx : crcRun 4294967295 (l.take k) < 4294967296 := crcRun_lt _ _ (by decide)
    by_cases hlt : k < l.length
    · have hcell := hc k hlt
      clear hc
      have HS : Hid (crcRun 4294967295 (l.take (k + 1)) = halfs 2 (crcRun 4294967295 (l.take k) ^^^ l[k].toNat)) := by
        show _ = _
        rw [take_snoc8 l k hlt, crcRun_snoc]; rfl
      have hxor := xor_byte (crcRun 4294967295 (l.take k)) l k hx hlt
      have hy0 : crcRun 4294967295 (l.take k) ^^^ l[k].toNat < 4294967296 := xor_lt32 hx (by have := byte_lt l[k]; omega)
      clear hx
      generalize crcRun 4294967295 (l.take k) = x at hxor HS hy0 ⊢
      generalize x ^^^ l[k].toNat = y0 at hxor HS hy0
      go_wp2
      go_loop [3, 16] (fun s i => ∃ j : Nat, j ≤ 2 ∧ i = .int .i64 j ∧ s = .int .u32 (halfs j y0 : Nat)) (fun _ i => 2 - (intOf i).toNat)
      case atStart => exact ⟨0, Nat.zero_le _, rfl, rfl⟩
      case round =>
        obtain ⟨j, hj, rfl, rfl⟩ := hrel
        have hy := halfs_lt j y0 hy0
        by_cases hjt : j < 2
        · have hand := and15 _ hy
          have hl4 := lo4_lt (halfs j y0)
          have hcc := hT (lo4 (halfs j y0)) hl4
          have hhalf := half_eq _ hy
          have HN : Hid (halfs (j + 1) y0 = half (halfs j y0)) := rfl
          clear hT hxor
          go_wp2
          go_round
          case rel => exact ⟨j + 1, by omega, by go_num, by rw [HN.out]⟩
          case measure => simp [intOf]; omega
        · have hj2 : j = 2 := by omega
          subst hj2
          go_wp2
          go_round
          case rel => exact ⟨k + 1, by omega, by go_num, by rw [HS.out]⟩
          case measure => simp [intOf]; omega
    · have hk2 : k = l.length := by omega
      subst hk2
      rw [List.take_length] at *
      go_wp2
      go_ret
      exact ⟨ret_int (not32 _ hx), rfl⟩

theorem sum_none (A : Option Addr) (c : Nat) (w : World) :
    Calls Tryd.prog 20 #[.slice A 0 c] w fun e w' => e = .returned (.int .u32 (crcN [] : Nat)) ∧ w = w' := by
  go_enter Tryd.func20, Tryd.ntmps20
  go_wp2
  refine wp_loop_rounds 1 ?_; rw [rounds_succ]
  go_wp2
  go_ret
  exact ⟨rfl, rfl⟩
theorem sum_any (A : Option Addr) (n c : Nat) (l : List UInt8) (B : Nat) (w : World) (hl : n = l.length) (hn : l.length ≤ 1000000) (hT : Tab w) (h : BS w B A l) :
    Calls Tryd.prog 20 #[.slice A n c] w fun e w' => e = .returned (.int .u32 (crcN l : Nat)) ∧ w = w' := by
  subst hl
  rcases Nat.eq_zero_or_pos l.length with h0 | h0
  · obtain rfl := List.eq_nil_of_length_eq_zero h0
    exact sum_none A c w
  · obtain ⟨b, o, rfl, _, hc⟩ := h h0
    exact sum_some b o c l w hn hT hc
theorem Tab.pos {w : World} (h : Tab w) : 0 < w.heap.size := by
  have := h 0 (by decide)
  rcases Nat.eq_zero_or_pos w.heap.size with h0 | h0
  · simp [World.cell?, Array.getElem?_eq_none (show w.heap.size ≤ 0 by omega)] at this
  · exact h0
theorem Tab.below' {w w' : World} (h : Tab w) (hb : Below w.heap.size w w') : Tab w' := h.below hb h.pos
end Go.Proofs.YthnghgnoonfgiaaDoor
