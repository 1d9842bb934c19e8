/- VintSums: it answers true; nothing that was there is written. -/
import Derived.Test.YthnghgnoonfgiaaDoorHeadWalk
import Derived.Test.YthnghgnoonfgiaaDoorMem3
import Derived.WalkKit
import Derived.WalkSpells
import Derived.Outline
import Derived.Lib.Hide
import Derived.Deep.RegionWith
namespace Go.Proofs.YthnghgnoonfgiaaDoor
open Go.RowKit
set_option maxRecDepth 100000

/-- The i-th byte of 32 bits. -/
def byteOf (bt i : Nat) : UInt8 := UInt8.ofNat (bt / 256 ^ i % 256)
/-- Four bytes, the first k of them turned. -/
def mixed (x0 x1 x2 x3 : UInt8) (bt k : Nat) : List UInt8 :=
  [if 0 < k then x0 ^^^ byteOf bt 0 else x0, if 1 < k then x1 ^^^ byteOf bt 1 else x1, if 2 < k then x2 ^^^ byteOf bt 2 else x2, if 3 < k then x3 ^^^ byteOf bt 3 else x3]
theorem mixed_next (P Q : List UInt8) (x0 x1 x2 x3 : UInt8) (bt k : Nat) (hk : k < 4) :
    (P ++ mixed x0 x1 x2 x3 bt k ++ Q).set (P.length + k) ((P ++ mixed x0 x1 x2 x3 bt k ++ Q)[P.length + k]?.getD 0 ^^^ byteOf bt k) = P ++ mixed x0 x1 x2 x3 bt (k + 1) ++ Q := by
  have h : k = 0 ∨ k = 1 ∨ k = 2 ∨ k = 3 := by omega
  rcases h with rfl | rfl | rfl | rfl <;> simp [mixed]
theorem split4 (l : List UInt8) (p : Nat) (h : p + 4 ≤ l.length) : ∃ P Q x0 x1 x2 x3, P.length = p ∧ l = P ++ [x0, x1, x2, x3] ++ Q := by
  refine ⟨l.take p, l.drop (p + 4), l[p], l[p + 1], l[p + 2], l[p + 3], by rw [List.length_take]; omega, ?_⟩
  conv => lhs; rw [← List.take_append_drop p l]
  rw [List.append_assoc]
  congr 1
  rw [List.drop_eq_getElem_cons (by omega), List.drop_eq_getElem_cons (by omega), List.drop_eq_getElem_cons (by omega), List.drop_eq_getElem_cons (by omega)]
  rfl
theorem byteOf_zero (bt : Nat) (h : bt < 4294967296) (h0 : byteOf bt 0 = 0) (h1 : byteOf bt 1 = 0) (h2 : byteOf bt 2 = 0) (h3 : byteOf bt 3 = 0) : bt = 0 := by
  have e : ∀ i, byteOf bt i = 0 → bt / 256 ^ i % 256 = 0 := fun i h => by
    have := congrArg UInt8.toNat h
    unfold byteOf at this
    rw [UInt8.toNat_ofNat'] at this
    simpa using this
  have e0 := e 0 h0
  have e1 := e 1 h1
  have e2 := e 2 h2
  have e3 := e 3 h3
  simp only [Nat.pow_zero, Nat.div_one, Nat.reducePow] at e0 e1 e2 e3
  omega
theorem xor_self_ne {x d : UInt8} (h : x = x ^^^ d) : d = 0 := by
  have : x ^^^ x = x ^^^ (x ^^^ d) := by rw [← h]
  rw [UInt8.xor_self, ← UInt8.xor_assoc, UInt8.xor_self, UInt8.zero_xor] at this
  exact this.symm
theorem mixed_ne (P Q : List UInt8) (x0 x1 x2 x3 : UInt8) (bt : Nat) (h : bt < 4294967296) (h0 : 0 < bt) : crcN (P ++ [x0, x1, x2, x3] ++ Q) ≠ crcN (P ++ mixed x0 x1 x2 x3 bt 4 ++ Q) := by
  have e : mixed x0 x1 x2 x3 bt 4 = [x0 ^^^ byteOf bt 0, x1 ^^^ byteOf bt 1, x2 ^^^ byteOf bt 2, x3 ^^^ byteOf bt 3] := by simp [mixed]
  rw [e]
  refine crc_burst P Q _ _ _ _ _ _ _ _ fun ⟨a, b, c, d⟩ => ?_
  have := byteOf_zero bt h (xor_self_ne a) (xor_self_ne b) (xor_self_ne c) (xor_self_ne d)
  omega
/-- 'at & 0xffff % n'. -/
theorem at_mod (a : Int) (m : Nat) (h : 4 ≤ m) (hm : m ≤ 200) : ∃ p : Nat, (bits .and .i64 a 65535).tmod ((m : Int) - 3) = (p : Int) ∧ p + 4 ≤ m := by
  have e : bits .and .i64 a 65535 = IntKind.i64.wrap ((BitVec.ofInt 64 a &&& BitVec.ofInt 64 65535).toNat : Int) := rfl
  have hle : (BitVec.ofInt 64 a &&& BitVec.ofInt 64 65535).toNat ≤ 65535 := by rw [BitVec.toNat_and]; exact Nat.le_trans Nat.and_le_right (by decide)
  generalize (BitVec.ofInt 64 a &&& BitVec.ofInt 64 65535).toNat = q at e hle
  have e2 : IntKind.i64.wrap (q : Int) = (q : Int) := by rw [IntKind.wrap_i64]; omega
  refine ⟨q % (m - 3), ?_, by have := Nat.mod_lt q (show 0 < m - 3 by omega); omega⟩
  rw [e, e2, show ((m : Int) - 3) = ((m - 3 : Nat) : Int) by omega]
  rfl

/-- The bytes while they are turned. -/
def turned (P Q : List UInt8) (x0 x1 x2 x3 : UInt8) (bt k : Nat) : List UInt8 := P ++ mixed x0 x1 x2 x3 bt k ++ Q
theorem xor_cell (L : List UInt8) (i bt k : Nat) : bits .xor .u8 (at8 L i) ((bt : Int) / 2 ^ (8 * k) % 256) = (((L[i]?.getD 0 ^^^ byteOf bt k).toNat : Nat) : Int) := by
  have e : ((bt : Int) / 2 ^ (8 * k) % 256) = ((bt / 256 ^ k % 256 : Nat) : Int) := by
    have h : (256 : Nat) ^ k = 2 ^ (8 * k) := by rw [Nat.pow_mul]
    rw [h]
    push_cast
    rfl
  have hb := (L[i]?.getD 0).toNat_lt
  unfold at8
  rw [e, u8_xor_nat _ _ (by omega) (by omega), UInt8.toNat_xor]
  unfold byteOf
  rw [UInt8.toNat_ofNat', Nat.mod_eq_of_lt (show bt / 256 ^ k % 256 < 2 ^ 8 by omega)]

set_option maxHeartbeats 2000000 in
theorem sums_main (A : Option Addr) (m c : Nat) (at_ : Int) (bt : Nat) (l : List UInt8) (w : World) (hT : Tab w) (HL : Hid (m = l.length)) (hb : BS w w.heap.size A l) (_hmc : m ≤ c) (h4 : 4 ≤ m) (h200 : m ≤ 200) (hbt : bt < 4294967296) (hb0 : 0 < bt) :
    Calls Tryd.prog 6 #[.slice A m c, .int .i64 at_, .int .u32 bt] w fun e w' => e = .returned (.bool true) ∧ Below w.heap.size w w' := by
  have hb0' : ((bt : Int) == 0) = false := by simp; omega
  have hd1 : decide ((m : Int) < 4) = false := decide_eq_false (by omega)
  have hd2 : decide ((200 : Int) < (m : Int)) = false := decide_eq_false (by omega)
  obtain ⟨p, hat, hp⟩ := at_mod at_ m h4 h200
  obtain ⟨P, Q, x0, x1, x2, x3, hP, hl⟩ := split4 l p (by rw [← HL.out]; exact hp)
  have HP := Lib.hid hP
  have HQ := Lib.hid hl
  clear hP hl
  go_enter Tryd.func6, Tryd.ntmps6
  go_wp2_with fail
  refine (head_any _ hT).mono ?_
  rintro e w1 ⟨rfl, hb1⟩
  have hbA : Below w.heap.size w (w1.alloc (.cells #[] 5)) := hb1.alloc hb1.size _
  have hT1 := hT.below' hb1
  have hsA : w.heap.size ≤ w1.heap.size := hb1.size
  go_wp2_with (
    (at_builtin
     refine wpList_append8 _ rfl (.tmp 29) (.tmp 30) rfl w1.heap.size (.slice (some ⟨w1.heap.size, 0, none⟩) 0 0) [] rfl (Own8.lit w1 (0, 0) rfl) A m c w.heap.size l rfl HL.out (hb.below hbA)
       (by have := HL.out; simp only [List.length_nil]; omega) (by simp) ?_
     intro v2 w2 hown2 hg2 hat2
     have hbel2 : Below w.heap.size w w2 := (Own8.lit w1 (0, 0) rfl).grow hsA hbA (by simp) hg2
     have hs2 : w1.heap.size ≤ w2.heap.size := by have := hg2.size; simp at this; omega
     obtain ⟨g, c2, hv2⟩ : ∃ g c2, v2 = .slice (some ⟨g, 0, none⟩) m c2 := by
       rcases hown2.2 with ⟨_, h0⟩ | ⟨g, cap, cur, hv, _⟩
       · rw [List.nil_append, ← HL.out] at h0; omega
       · exact ⟨g, cap, by rw [hv, List.nil_append, ← HL.out]⟩
     rw [hv2] at hown2 ⊢
     rw [List.nil_append, HQ.out] at hown2
     clear hv2 hg2 hat2))
  go_loopw [8] (fun i wr => ∃ k : Nat, k ≤ 4 ∧ i = .int .i64 k ∧ Below w.heap.size w wr ∧ w1.heap.size ≤ wr.heap.size ∧ Own8 wr w1.heap.size 5 (.slice (some ⟨g, 0, none⟩) m c2) (turned P Q x0 x1 x2 x3 bt k)) (fun i _ => 4 - (intOf i).toNat)
  case atStart => exact ⟨0, by decide, rfl, hbel2, hs2, by simpa [turned, mixed] using hown2⟩
  case round =>
    obtain ⟨k, hk, rfl, hbel, hsz, hown⟩ := hrel
    clear hown2 hbel2 hs2 hbA
    have hlen : (turned P Q x0 x1 x2 x3 bt k).length = m := by rw [HL.out, HQ.out]; simp [turned, mixed]
    by_cases hlt : k < 4
    · obtain ⟨hcell, hfr⟩ := hown.cell (p + k) (by rw [hlen]; omega)
      have hnext := hown.set_ (p + k) (by rw [hlen]; omega) ((turned P Q x0 x1 x2 x3 bt k)[p + k]?.getD 0 ^^^ byteOf bt k)
      have hmx := mixed_next P Q x0 x1 x2 x3 bt k hlt
      rw [HP.out] at hmx
      have HN : Hid (Own8 (wr.setCell ⟨g, p + k, none⟩ (.int .u8 (((turned P Q x0 x1 x2 x3 bt k)[p + k]?.getD 0 ^^^ byteOf bt k).toNat : Int))) w1.heap.size 5 (.slice (some ⟨g, 0, none⟩) m c2) (turned P Q x0 x1 x2 x3 bt (k + 1))) := by
        have e : turned P Q x0 x1 x2 x3 bt (k + 1) = (turned P Q x0 x1 x2 x3 bt k).set (p + k) ((turned P Q x0 x1 x2 x3 bt k)[p + k]?.getD 0 ^^^ byteOf bt k) := hmx.symm
        show Own8 _ _ _ _ _
        rw [e]
        exact hnext
      have hx := xor_cell (turned P Q x0 x1 x2 x3 bt k) (p + k) bt k
      have hgb : w.heap.size ≤ g := by
        obtain ⟨_, _, _, _, _, _, hb⟩ := hown.form
        have := (hb g rfl).1
        omega
      clear hown hlen hmx hnext
      generalize ((turned P Q x0 x1 x2 x3 bt k)[p + k]?.getD 0 ^^^ byteOf bt k).toNat = y at hx HN
      go_wp2
      go_roundw
      case rel => exact ⟨k + 1, by omega, by go_num, hbel.setCell hgb _, by simpa [World.setCell] using hsz, HN.out⟩
      case measure => simp [intOf]; omega
    · have hk4 : k = 4 := by omega
      subst hk4
      have hTr := hT.below' hbel
      obtain ⟨A2, c3, hv, _, _, hbs2, _⟩ := hown.form
      injection hv with hv1 hv2 hv3
      have hcrc : ((crcN l : Int) != (crcN (turned P Q x0 x1 x2 x3 bt 4) : Int)) = true := by
        have := mixed_ne P Q x0 x1 x2 x3 bt hbt hb0
        rw [HQ.out]
        simp only [bne_iff_ne, ne_eq]
        intro e
        exact this (by exact_mod_cast e)
      have HLN := Lib.hid hlen
      rw [← hv1] at hbs2
      clear hlen hv1 hv2 hv3
      go_wp2_with fail
      refine (sum_any A m c l w.heap.size _ HL.out (by rw [← HL.out]; omega) hTr (hb.below hbel)).mono ?_
      rintro e w' ⟨rfl, rfl⟩
      go_wp2_with fail
      refine (sum_any _ m c2 (turned P Q x0 x1 x2 x3 bt 4) wr.heap.size _ HLN.out.symm (by rw [HLN.out]; omega) hTr hbs2).mono ?_
      rintro e w' ⟨rfl, rfl⟩
      go_wp2_with fail
      go_ret
      exact ⟨rfl, hbel⟩

set_option maxHeartbeats 1000000 in
theorem sums_walk (A : Option Addr) (m c : Nat) (at_ : Int) (bt : Nat) (l : List UInt8) (w : World) (hT : Tab w) (HL : Hid (m = l.length)) (hb : BS w w.heap.size A l) (hmc : m ≤ c) (hm9 : m ≤ 9223372036854775807) (hbt : bt < 4294967296) :
    Calls Tryd.prog 6 #[.slice A m c, .int .i64 at_, .int .u32 bt] w fun e w' => e = .returned (.bool true) ∧ Below w.heap.size w w' := by
  by_cases h4 : m < 4
  · have hd1 : decide ((m : Int) < 4) = true := decide_eq_true (by omega)
    go_enter Tryd.func6, Tryd.ntmps6
    go_wp2_with (go_at_call 9; (with_reducible refine (head_any _ hT).mono ?_); rintro e w1 ⟨rfl, hb1⟩)
    go_ret
    exact ⟨rfl, hb1⟩
  · have hd1 : decide ((m : Int) < 4) = false := decide_eq_false (by omega)
    by_cases h200 : 200 < m
    · have hd2 : decide ((200 : Int) < (m : Int)) = true := decide_eq_true (by omega)
      go_enter Tryd.func6, Tryd.ntmps6
      go_wp2_with (go_at_call 9; (with_reducible refine (head_any _ hT).mono ?_); rintro e w1 ⟨rfl, hb1⟩)
      go_ret
      exact ⟨rfl, hb1⟩
    · have hd2 : decide ((200 : Int) < (m : Int)) = false := decide_eq_false (by omega)
      rcases Nat.eq_zero_or_pos bt with rfl | h0
      · go_enter Tryd.func6, Tryd.ntmps6
        go_wp2_with (go_at_call 9; (with_reducible refine (head_any _ hT).mono ?_); rintro e w1 ⟨rfl, hb1⟩)
        go_ret
        exact ⟨rfl, hb1⟩
      · exact sums_main A m c at_ bt l w hT HL hb hmc (by omega) (by omega) hbt h0
end Go.Proofs.YthnghgnoonfgiaaDoor
