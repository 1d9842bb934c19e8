/- vint.Put's contract: onto a row of bytes that the call owns, the number's bytes go behind what it holds. -/
import Derived.Test.YtjigaoclngfcaaaLenWalk
import Derived.Test.YtjigaoclngfcaaaMem2
import Derived.Laws.BitsAllLaws
import Derived.Maps.AppendAt
import Derived.OwnWalk
import Derived.WalkKit
import Derived.WalkSpells
import Derived.Outline
namespace Go.Proofs.Ytjigaoclngfcaaa
open Go.RowKit
set_option maxRecDepth 100000

/-- The array of ten bytes while it is filled from its end. -/
def Gr (wr : World) (g n k : Nat) : Prop := ∃ cs : Array Value, cs.size = 10 ∧ wr.heap[g]? = some (.cells cs 95 (0, 0)) ∧ ∀ j, 10 - k ≤ j → j < 10 → cs[j]? = some (.int .u8 (grp n j : Nat))
theorem Gr.cell {wr : World} {g n k : Nat} (h : Gr wr g n k) (j : Nat) (hj : j < 10) : ∃ v, wr.cell? ⟨g, j, none⟩ = some v := by
  obtain ⟨cs, hs, hh, _⟩ := h
  exact ⟨cs[j], by simp [World.cell?, hh, hs, hj]⟩
theorem Gr.frozen {wr : World} {g n k : Nat} (h : Gr wr g n k) (j : Nat) : wr.frozen? ⟨g, j, none⟩ = false := by
  obtain ⟨cs, hs, hh, _⟩ := h
  simp [World.frozen?, hh]
theorem Gr.at_ {wr : World} {g n k : Nat} (h : Gr wr g n k) (j : Nat) (hj : 10 - k ≤ j) (hj' : j < 10) : wr.cell? ⟨g, j, none⟩ = some (.int .u8 (grp n j : Nat)) := by
  obtain ⟨cs, hs, hh, hc⟩ := h
  have := hc j hj hj'
  simpa [World.cell?, hh] using this
theorem Gr.set_ {wr : World} {g n k : Nat} (h : Gr wr g n k) (hk : k < 10) : Gr (wr.setCell ⟨g, 9 - k, none⟩ (.int .u8 (grp n (9 - k) : Nat))) g n (k + 1) := by
  obtain ⟨cs, hs, hh, hc⟩ := h
  refine ⟨cs.setIfInBounds (9 - k) (.int .u8 (grp n (9 - k) : Nat)), by simpa using hs, by simp [World.setCell, Array.getElem?_modify, hh], fun j h1 h2 => ?_⟩
  by_cases e : 9 - k = j
  · subst e
    rw [Array.getElem?_setIfInBounds_self_of_lt (by omega)]
  · rw [Array.getElem?_setIfInBounds_ne e]
    exact hc j (by omega) h2
theorem grp_bits (n : Nat) (h : n < 18446744073709551616) : bits .or .u8 (bits .and .u64 (n : Int) 127 % 256) 128 = ((n % 128 + 128 : Nat) : Int) := by
  have e : bits .and .u64 (n : Int) 127 = ((n % 128 : Nat) : Int) := by
    have := u64_and_nat n 127 h (by decide)
    rw [nat_mask7] at this
    exact this
  rw [e, show (((n % 128 : Nat) : Int) % 256) = ((n % 128 : Nat) : Int) by omega]
  have := u8_or_nat (n % 128) 128 (by omega) (by decide)
  rw [Nat.or_comm, nat_join 7 128 (n % 128) (by decide) (by omega)] at this
  rw [Nat.add_comm]
  exact this
theorem low_bits (x : Nat) (h : x < 256) : bits .and .u8 (x : Int) 127 = ((x % 128 : Nat) : Int) := by
  have := u8_and_nat x 127 h (by decide)
  rw [nat_mask7] at this
  exact this

/-- The array behind the loop, its last byte cleared: the number's bytes, right-aligned. -/
theorem Gr.enc {wr : World} {g n : Nat} (h : Gr wr g n (glen n)) (hg : glen n ≤ 10) (W : World) (hW : W = wr.setCell ⟨g, 9, none⟩ (.int .u8 (grp n 9 % 128 : Nat))) :
    ∀ j u, (cells8 (enc n))[j]? = some u → W.cell? ((⟨g, 10 - glen n, none⟩ : Addr).add j) = some u := by
  intro j u hu
  have hp := glen_pos n
  have hj : j < glen n := by
    have := (List.getElem?_eq_some_iff.1 hu).1
    rw [cells8_length] at this
    exact this
  have ha : (⟨g, 10 - glen n, none⟩ : Addr).add j = ⟨g, 10 - glen n + j, none⟩ := by unfold Addr.add; split <;> simp_all
  have hv : u = .int .u8 ((if j + 1 = glen n then n % 128 else n / 128 ^ (glen n - 1 - j) % 128 + 128 : Nat) : Int) := by
    unfold cells8 at hu
    rw [List.getElem?_map, enc_at n j hj] at hu
    simp only [Option.map_some, Option.some.injEq] at hu
    rw [← hu]
    congr 2
    rw [UInt8.toNat_ofNat']
    split <;> omega
  rw [ha, hW]
  by_cases he : j + 1 = glen n
  · have h9 : 10 - glen n + j = 9 := by omega
    obtain ⟨v9, hv9⟩ := h.cell 9 (by decide)
    rw [h9, World.cell?_setCell_same _ _ _ (by rw [hv9]), hv, if_pos he]
    unfold grp
    simp
  · rw [World.cell?_setCell_other _ _ _ _ (by intro e; injection e with _ e; omega), h.at_ _ (by omega) (by omega), hv, if_neg he]
    unfold grp
    rw [show 9 - (10 - glen n + j) = glen n - 1 - j by omega]

theorem slice_arr (g s : Nat) (h1 : 1 ≤ s) (h2 : s ≤ 10) (W : World) : (Instr.sliceAt 95 (.pointer (some ⟨g, 0, none⟩)) (some (.int .i64 (10 - (s : Int)))) none none).run Try.prog W = .ok (.slice (some ⟨g, 10 - s, none⟩) s s) W := by
  have hl : Try.prog.arrayLen 95 = 10 := by kernel_rfl
  have he : Try.prog.elem 95 = 5 := by kernel_rfl
  have hz : (sizeOf 5).run Try.prog W = .ok 1 W := by kernel_rfl
  have hu : Try.prog.underlying 95 = some (.array (Try.prog.arrayLen 95) (Try.prog.elem 95)) := by kernel_rfl
  have h := run_sliceAt_array_l (P := Try.prog) W 95 ⟨g, 0, none⟩ hu .i64 (10 - (s : Int)) (by omega) (by rw [hl]; omega)
  rw [h, hl, he, hz]
  have e : (10 - (s : Int)).toNat = 10 - s := by omega
  have e2 : 10 - (10 - s) = s := by omega
  have e3 : ¬ (10 = 10 - s) := by omega
  simp only [Result.andThen, slicedAt, e, e2, if_neg e3, Nat.mul_one]
  by_cases h0 : 10 - s = 0
  · simp [Addr.add, h0]
  · simp [Addr.add, h0]

set_option maxHeartbeats 1000000 in
theorem put_any (v : Value) (l : List UInt8) (base n : Nat) (hn : n < 18446744073709551616) (w : World) (hown : Own8 w base 5 v l) (hbase : base ≤ w.heap.size) (hlen : l.length ≤ 1099511627776) :
    Calls Try.prog 39 #[v, .int .u64 n] w fun e w' => ∃ v', e = .returned v' ∧ Own8 w' base 5 v' (l ++ enc n) ∧ w.grownBy w' v.ownBlock ∧ (v'.ownBlock = v.ownBlock ∨ ∃ g, v'.ownBlock = some g ∧ w.heap.size ≤ g) := by
  have hg1 := glen_pos n
  have hg2 := glen_le10 n hn
  obtain ⟨i0, hi0, hz0, hz1, hz2⟩ := info_parts u8_info
  go_enter Try.func39, Try.ntmps39
  go_wp2_with (go_at_call 61; (with_reducible refine (length_any n _ hn).mono ?_); rintro e w' ⟨rfl, rfl⟩)
  go_loopw [1, 11] (fun x i wr => ∃ k : Nat, k ≤ glen n ∧ i = .int .i64 k ∧ x = .int .u64 (n / 128 ^ k : Nat) ∧ Below w.heap.size w wr ∧ Gr wr w.heap.size n k) (fun _ i _ => glen n - (intOf i).toNat)
  case atStart => exact ⟨0, Nat.zero_le _, rfl, by simp, (Below.refl _ _).alloc (Nat.le_refl _) _, ⟨_, rfl, heap_alloc_new w _, fun j h1 h2 => by omega⟩⟩
  case round =>
    obtain ⟨k, hk, rfl, rfl, hbel, hgr⟩ := hrel
    by_cases hlt : k < glen n
    · obtain ⟨vc, hvc⟩ := hgr.cell (9 - k) (by omega)
      have hfr := hgr.frozen (9 - k)
      have hgb := grp_bits (n / 128 ^ k) (Nat.lt_of_le_of_lt (Nat.div_le_self _ _) hn)
      have HY : Hid (n / 128 ^ (k + 1) = n / 128 ^ k / 128) := by show _ = _; rw [Nat.pow_succ, Nat.div_div_eq_div_mul]
      have HG : Hid (n / 128 ^ k % 128 + 128 = grp n (9 - k)) := by show _ = _; unfold grp; rw [show 9 - (9 - k) = k by omega]
      have hgs := hgr.set_ (show k < 10 by omega)
      rw [← HG.out] at hgs
      generalize n / 128 ^ k = y at hgb HY HG hgs ⊢
      generalize y % 128 + 128 = z at hgb HG hgs
      go_wp2
      go_roundw
      case rel => exact ⟨k + 1, by omega, by go_num, by rw [HY.out]; go_num, hbel.setCell (Nat.le_refl _) _, hgs⟩
      case measure => simp [intOf]; omega
    · have hk2 : k = glen n := by omega
      subst hk2
      have h9 := hgr.at_ 9 (by omega) (by decide)
      have hf9 := hgr.frozen 9
      have hlb := low_bits (grp n 9) (grp_lt n 9)
      have hnews := hgr.enc hg2 _ rfl
      have hsl := slice_arr w.heap.size (glen n) hg1 hg2
      generalize grp n 9 % 128 = q9 at hlb hnews
      have hbel2 : Below w.heap.size w (wr.setCell ⟨w.heap.size, 9, none⟩ (.int .u8 (q9 : Int))) := hbel.setCell (Nat.le_refl _) _
      have hown2 := hown.below hbel2
      have hsz2 : w.heap.size < (wr.setCell ⟨w.heap.size, 9, none⟩ (.int .u8 (q9 : Int))).heap.size := by
        obtain ⟨cs, _, hh, _⟩ := hgr
        have : w.heap.size < wr.heap.size := by
          rcases Nat.lt_or_ge w.heap.size wr.heap.size with h' | h'
          · exact h'
          · rw [Array.getElem?_eq_none h'] at hh; cases hh
        simpa [World.setCell] using this
      go_wp2_with (
        (at_builtin
         refine wpList_append_own_at _ rfl (.tmp 28) (.tmp 31) _ rfl base 5 i0 _ 1 1 Try.underlying25 hi0 hz0 hz1 hz2 rfl (by omega) v l.length (cells8 l) rfl
           hown2 ⟨w.heap.size, 10 - glen n, none⟩ (glen n) (glen n) (cells8 (enc n)) rfl (by rw [cells8_length]; simp [glen]) hnews (cells8_one _) (by simp only [maxLen]; omega) (by omega) (by omega) ?_
         intro v1 w1 hown1 hg1 _ hat1))
      go_ret
      refine ⟨v1, rfl, ?_, ?_, ?_⟩
      · have e : l.length + glen n = (l ++ enc n).length := by rw [List.length_append]; rfl
        rw [e, ← cells8_append] at hown1
        exact hown1
      · exact ⟨hg1.os.trans hbel2.os, hg1.tape.trans hbel2.tape, hg1.output.trans hbel2.output, Nat.le_trans hbel2.size hg1.size, fun k hk hne => (hg1.block k (by omega) hne).trans (hbel2.block k hk)⟩
      · rcases hat1 with h | h
        · exact .inl h
        · exact .inr ⟨_, h, by omega⟩
end Go.Proofs.Ytjigaoclngfcaaa
