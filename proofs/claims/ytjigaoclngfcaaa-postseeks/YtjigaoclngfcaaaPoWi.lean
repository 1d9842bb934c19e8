/- post.Hit.Within; PostWithin answers true. -/
import Derived.Test.YtjigaoclngfcaaaPoHd
import Derived.Test.YtjigaoclngfcaaaShelf
namespace Go.Proofs.Ytjigaoclngfcaaa
open Go.RowKit
set_option maxRecDepth 100000

/-! plain -/
def inB (f t n : Int) : Bool := decide (f ≤ n) && decide (n < t)
theorem cut_sorted : ∀ (us : List Int) (x : Int), us.Pairwise (· < ·) → us.drop (us.countP fun n => decide (n < x)) = us.filter (fun n => decide (x ≤ n)) ∧ us.take (us.countP fun n => decide (n < x)) = us.filter (fun n => decide (n < x))
  | [], x, _ => by simp
  | a :: t, x, h => by
    obtain ⟨h1, h2⟩ := List.pairwise_cons.1 h
    obtain ⟨i1, i2⟩ := cut_sorted t x h2
    by_cases ha : a < x
    · simp only [List.countP_cons, decide_eq_true ha, if_true, List.drop_succ_cons, List.take_succ_cons, List.filter_cons, i1, i2, decide_eq_false (show ¬ x ≤ a by omega), Bool.false_eq_true, if_false]
      exact ⟨trivial, trivial⟩
    · have h0 : t.countP (fun n => decide (n < x)) = 0 := List.countP_eq_zero.2 fun b hb => by have := h1 b hb; simp; omega
      have f1 : (a :: t).filter (fun n => decide (x ≤ n)) = a :: t := List.filter_eq_self.2 fun b hb => by
        rcases List.mem_cons.1 hb with rfl | hb
        · simp; omega
        · have := h1 b hb; simp; omega
      have f2 : (a :: t).filter (fun n => decide (n < x)) = [] := List.filter_eq_nil_iff.2 fun b hb => by
        rcases List.mem_cons.1 hb with rfl | hb
        · simp; omega
        · have := h1 b hb; simp; omega
      simp only [List.countP_cons, h0, decide_eq_false ha, f1, f2]
      exact ⟨rfl, rfl⟩
theorem within_eq (us : List Int) (f t : Int) (h : us.Pairwise (· < ·)) : (us.drop (us.countP fun n => decide (n < f))).take ((us.drop (us.countP fun n => decide (n < f))).countP fun n => decide (n < t)) = us.filter (inB f t) := by
  have h2 : (us.drop (us.countP fun n => decide (n < f))).Pairwise (· < ·) := h.sublist (List.drop_sublist _ _)
  rw [(cut_sorted _ t h2).2, (cut_sorted us f h).1, List.filter_filter]
  congr 1
  funext n
  unfold inB
  rw [Bool.and_comm]
theorem and_7 (b : Int) : ∃ n : Nat, bits .and .i64 b 7 = (n : Int) ∧ n ≤ 7 := by
  have h : (BitVec.ofInt 64 b &&& BitVec.ofInt 64 7).toNat ≤ 7 := by
    rw [BitVec.toNat_and]
    exact Nat.le_trans Nat.and_le_right (by decide)
  refine ⟨(BitVec.ofInt 64 b &&& BitVec.ofInt 64 7).toNat, ?_, h⟩
  show IntKind.i64.wrap ((BitVec.ofInt 64 b &&& BitVec.ofInt 64 7).toNat : Int) = _
  rw [IntKind.wrap_i64]
  omega
theorem bsI_any (A : Option Addr) (n c : Nat) (us : List Int) (x : Int) (hn : n = us.length) (hs : us.Pairwise (· < ·)) (w : World) (B : Nat) (hnm : n ≤ 1000000) (h : CS w B A (us.map eI)) :
    Calls Try.prog 48 #[.slice A n c, .int .i64 x] w fun e w' => ∃ q, e = .returned (.tuple #[.int .i64 (us.countP (fun n => decide (n < x)) : Nat), .bool q]) ∧ ∃ d, w' = w.drewN d := by
  subst hn
  rcases Nat.eq_zero_or_pos us.length with h0 | h0
  · obtain rfl := List.eq_nil_of_length_eq_zero h0
    refine (Try.slices_BinarySearch_int_empty A c x w).mono ?_
    rintro e w' ⟨rfl, rfl⟩
    exact ⟨false, rfl, 0, rfl⟩
  · obtain ⟨b, o, rfl, _, hc⟩ := h (by rw [List.length_map]; exact h0)
    refine (Try.slices_BinarySearch_int b o us.length c us x w (Nat.le_refl _) (by omega) (fun j hj => ?_) ?_).mono ?_
    · rw [hc j _ (eI_at us j hj), List.getD_eq_getElem?_getD, List.getElem?_eq_getElem hj]
      rfl
    · rw [List.take_length]
      exact hs.imp fun h => by omega
    · rintro e w' ⟨rfl, d, rfl⟩
      rw [List.take_length]
      exact ⟨_, rfl, d, rfl⟩
theorem clone_any (A : Option Addr) (n c : Nat) (us : List Int) (hn : n ≤ us.length) (w : World) (B : Nat) (hnm : us.length ≤ 1000000) (h : CS w B A (us.map eI)) :
    Calls Try.prog 49 #[.slice A n c] w fun e w' => ∃ A' c', e = .returned (.slice A' n c') ∧ CS w' w'.heap.size A' ((us.take n).map eI) ∧ Below w.heap.size w w' := by
  rcases Nat.eq_zero_or_pos us.length with h0 | h0
  · obtain rfl := List.eq_nil_of_length_eq_zero h0
    obtain rfl : n = 0 := by simpa using hn
    cases A with
    | none =>
      refine (Try.slices_Clone_int_nil 0 c w).mono ?_
      rintro e w' ⟨rfl, rfl⟩
      exact ⟨none, 0, rfl, CS.nil _ _ _, Below.refl _ _⟩
    | some a =>
      refine (Try.slices_Clone_int_zero a c w).mono ?_
      rintro e w' ⟨v', rfl, ho, _, hb⟩
      obtain ⟨A', c', rfl, _, _, _, _⟩ := own_form ho
      exact ⟨A', c', rfl, CS.nil _ _ _, hb⟩
  · obtain ⟨b, o, rfl, _, hc⟩ := h (by rw [List.length_map]; exact h0)
    refine (Try.slices_Clone_int b o n c us w hn (by omega) (fun j hj => ?_)).mono ?_
    · rw [hc j _ (eI_at us j hj), List.getD_eq_getElem?_getD, List.getElem?_eq_getElem hj]
      rfl
    · rintro e w' ⟨v', rfl, ho, _, hb⟩
      obtain ⟨A', c', rfl, _, _, hcs, _⟩ := own_form ho
      exact ⟨A', c', rfl, hcs, hb⟩
theorem CS.from_ {w : World} {B : Nat} {A : Option Addr} {us : List Int} (h : CS w B A (us.map eI)) (n c k : Nat) (hn : n = us.length) (hk : k ≤ n) (hc : n ≤ c) :
    ∃ A', (∀ W, (Instr.slice 33 (.slice A n c) (some (.int .i64 (k : Int))) none none).run Try.prog W = .ok (.slice A' (n - k) (c - k)) W) ∧ CS w B A' ((us.drop k).map eI) := by
  have hu : Try.prog.underlying 33 = some (.slice (Try.prog.elem 33)) := by kernel_rfl
  have he : Try.prog.elem 33 = 3 := by kernel_rfl
  refine ⟨if c = k then A else A.map (·.add (k * 1)), fun W => ?_, fun hp => ?_⟩
  · have hz : (sizeOf 3).run Try.prog W = .ok 1 W := by kernel_rfl
    rw [run_slice_l W 33 A n c hu .i64 (k : Int) (by omega) (by omega), he, hz]
    simp only [Result.andThen, sliced, Int.toNat_natCast]
  · rw [List.length_map, List.length_drop] at hp
    obtain ⟨b, o, rfl, hb, hcell⟩ := h (by rw [List.length_map]; omega)
    rw [if_neg (by omega)]
    refine ⟨b, o + k, by simp [add_addr], hb, fun j u hj => ?_⟩
    rw [Nat.add_assoc]
    exact hcell (k + j) u (by rw [List.map_drop, List.getElem?_drop] at hj; exact hj)
theorem below_drewN {B : Nat} {a w : World} (h : Below B a w) (n : Nat) : Below B a (w.drewN n) := ⟨h.os, h.tape, h.output, h.size, h.block⟩
set_option maxHeartbeats 1000000 in
theorem within_any (A : Option Addr) (n c : Nat) (us : List Int) (d f t : Int) (hn : n = us.length) (hnm : n ≤ 1000) (hnc : n ≤ c) (hs : us.Pairwise (· < ·)) (w : World) (h : CS w w.heap.size A (us.map eI)) :
    Calls Try.prog 25 #[.agg #[.int .i64 d, .slice A n c], .int .i64 f, .int .i64 t] w fun e w' => ∃ A' c', e = .returned (.slice A' (us.filter (inB f t)).length c') ∧ CS w' w'.heap.size A' ((us.filter (inB f t)).map eI) ∧ Below w.heap.size w w' := by
  obtain ⟨X, hX⟩ : ∃ X, w.alloc (.cells #[.int .i64 d, .slice A n c] 37) = X := ⟨_, rfl⟩
  have b0 : Below w.heap.size w X := by rw [← hX]; exact (Below.refl _ _).alloc (Nat.le_refl _) _
  have x1 : X.cell? ⟨w.heap.size, 1, none⟩ = some (.slice A n c) := by
    rw [← hX]
    have z := new_cells w #[.int .i64 d, .slice A n c] 37 (0, 0) 1 _ rfl
    rwa [add_addr] at z
  have hC := h.up' b0
  have HK : Hid (∀ W, Below X.heap.size X W → W.cell? ⟨w.heap.size, 1, none⟩ = some (.slice A n c)) := fun W hb => (hb.cell (World.block_lt_of_cell? X _ x1)).trans x1
  obtain ⟨k, hk⟩ : ∃ k, k = us.countP fun n => decide (n < f) := ⟨_, rfl⟩
  have hkn : k ≤ n := by rw [hk, hn]; exact List.countP_le_length
  obtain ⟨A2, hfrom, hc2⟩ := hC.from_ n c k hn hkn hnc
  have hs2 : (us.drop k).Pairwise (· < ·) := hs.sublist (List.drop_sublist _ _)
  obtain ⟨m, hm⟩ : ∃ m, m = (us.drop k).countP fun n => decide (n < t) := ⟨_, rfl⟩
  have hl2 : n - k = (us.drop k).length := by rw [List.length_drop, hn]
  have hmn : m ≤ n - k := by rw [hm, hl2]; exact List.countP_le_length
  have hW : (us.drop k).take m = us.filter (inB f t) := by rw [hm, hk]; exact within_eq us f t hs
  have K1 := Lib.hid (bsI_any A n c us f hn hs X _ (by omega) hC)
  have K2 : Hid (∀ W, Below X.heap.size X W → Calls Try.prog 48 #[.slice A2 (n - k) (c - k), .int .i64 t] W fun e w' => ∃ r, e = .returned (.tuple #[.int .i64 m, .bool r]) ∧ ∃ d, w' = W.drewN d) := fun W hb => by
    rw [hm]
    exact bsI_any A2 (n - k) (c - k) (us.drop k) t hl2 hs2 W _ (by omega) (hc2.below hb)
  have K3 : Hid (∀ W, Below X.heap.size X W → Calls Try.prog 49 #[.slice A2 m (c - k)] W fun e w' => ∃ A' c', e = .returned (.slice A' m c') ∧ CS w' w'.heap.size A' ((us.filter (inB f t)).map eI) ∧ Below X.heap.size X w') := fun W hb =>
    (clone_any A2 m (c - k) (us.drop k) (by omega) W _ (by rw [← hl2]; omega) (hc2.below hb)).mono fun e w' ⟨A', c', h1, h2, h3⟩ => ⟨A', c', h1, by rw [← hW]; exact h2, hb.trans (h3.mono hb.size)⟩
  rw [← hk] at K1
  have hml : (us.filter (inB f t)).length = m := by rw [← hW, List.length_take, ← hl2]; omega
  rw [hml]
  have HB0 := Lib.hid b0
  have hmc : m ≤ c - k := by omega
  have x1' := x1
  clear hk hm hs hs2 hc2 hC h hW hl2 hml b0 hn
  go_enter Try.func25, Try.ntmps25
  go_wp2_with fail
  with_reducible refine K1.out.mono ?_
  rintro e w1 ⟨r1, rfl, q1, rfl⟩
  have hb1 := Lib.hid (below_drewN (Below.refl X.heap.size X) q1)
  have y1 := HK.out _ hb1.out
  go_wp2_with fail
  with_reducible refine (K2.out _ hb1.out).mono ?_
  rintro e w2 ⟨r2, rfl, q2, rfl⟩
  have hb2 := Lib.hid (below_drewN (Below.refl X.heap.size X) (q1 + q2))
  go_wp2_with fail
  with_reducible refine (K3.out _ hb2.out).mono ?_
  rintro e w3 ⟨A3, c3, rfl, h3, b3⟩
  go_wp2_with fail
  go_ret
  exact ⟨A3, c3, rfl, h3, HB0.out.trans (b3.mono HB0.out.size)⟩
end Go.Proofs.Ytjigaoclngfcaaa
