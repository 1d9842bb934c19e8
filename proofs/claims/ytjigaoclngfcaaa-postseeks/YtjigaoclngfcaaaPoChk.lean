/- slices.Chunk of hits, four at a time. -/
import Derived.Test.YtjigaoclngfcaaaPoLay
import Derived.Test.YtjigaoclngfcaaaChecked
import Derived.RangeFuncBox
import Derived.RangeFuncLeaves
import Derived.RangeFuncKeeps
import Derived.Shelf.Abstract
import Derived.OwnWalkIn
import Derived.TacticsInMore
import Derived.LoopNIn
import Derived.LoopIn
import Derived.BigRegionIn
namespace Go.Proofs.Ytjigaoclngfcaaa
open Go.RowKit Go.Shelf
set_option maxRecDepth 100000

attribute [local go_sem] Oper.semAt_some

/-- The block of a number, of N hits at A (a number too great is the last one's). -/
def bix (N x : Nat) : Nat := min x (nbl N - 1)
def blen (N x : Nat) : Nat := min 4 (N - 4 * bix N x)
def bad (A : Option Addr) (N x : Nat) : Option Addr := A.map fun a => ⟨a.block, a.off + 4 * bix N x * 2, a.spot⟩
def bval (A : Option Addr) (N x : Nat) : Value := .slice (bad A N x) (blen N x) (blen N x)
theorem bix_eq (N x : Nat) (h : x < nbl N) : bix N x = x := by unfold bix; omega
theorem nbl_lt (N x : Nat) (h : x < nbl N) : 4 * x < N := by unfold nbl at h; omega
/-- The two variables of the iterator are as they were. -/
def KB (Bs Bn : Nat) (W W' : World) : Prop := W'.heap[Bs]? = W.heap[Bs]? ∧ W'.heap[Bn]? = W.heap[Bn]?
theorem cell_hp {w w' : World} {b o : Nat} (h : w'.heap[b]? = w.heap[b]?) : w'.cell? ⟨b, o, none⟩ = w.cell? ⟨b, o, none⟩ := by simp [World.cell?, h]
theorem range_pre (n k : Nat) (h : k < n) : List.range (k + 1) <+: List.range n := by
  refine ⟨(List.range n).drop (k + 1), ?_⟩
  conv => rhs; rw [← List.take_append_drop (k + 1) (List.range n)]
  rw [List.take_range, Nat.min_eq_left (by omega)]
set_option maxHeartbeats 2000000 in
theorem chunk1_in (n : Nat) (hn : 1 ≤ n) (l Bs Bn cap N : Nat) (A : Option Addr) (hA : 0 < N → ∃ b o, A = some ⟨b, o, none⟩) (hNc : N ≤ cap) (hreach : N ≤ 1000000) (J Jx : List Nat → World → Prop) (W : World) (hJa : AbidesFrom W.heap.size J)
    (hY : ∀ pre x W, J pre W → pre.length < nbl N → YieldAt Fence.wide (n - 1) Try.prog l #[bval A N x] W fun e W' =>
      (e = .returned (.bool true) ∧ J (pre ++ [x]) W' ∧ KB Bs Bn W W') ∨ (e = .returned (.bool false) ∧ Jx (pre ++ [x]) W'))
    (hBs : W.cell? ⟨Bs, 0, none⟩ = some (.slice A N cap)) (hBn : W.cell? ⟨Bn, 0, none⟩ = some (.int .i64 4)) (h0 : J [] W) :
    CallsIn Fence.wide n Try.prog 62 #[.func (.yield l) #[] #[], .pointer (some ⟨Bs, 0, none⟩), .pointer (some ⟨Bn, 0, none⟩)] W fun e W' => (∃ v, e = .returned v) ∧
      ((∃ ys, ys = List.range (nbl N) ∧ J ys W') ∨ (∃ pre, pre <+: List.range (nbl N) ∧ Jx pre W')) := by
  refine callsIn_of_wp Try.func62 rfl trivial ?_ rfl
  simp only [Try.ntmps62, List.size_toArray, List.length_cons, List.length_nil, Nat.reduceAdd, Nat.reduceSub, Array.replicate_succ, Array.replicate_zero, List.push_toArray, List.append_toArray, List.nil_append, List.cons_append]
  gi_wp2
  gi_loopw [4] (fun i wr => ∃ k i4 : Nat, k ≤ nbl N ∧ i = .int .i64 i4 ∧ Hid (i4 = 4 * k) ∧ J (List.range k) wr ∧ KB Bs Bn W wr)
    (fun i _ => N + 4 - (intOf i).toNat)
  case atStart => exact ⟨0, 0, Nat.zero_le _, rfl, rfl, h0, rfl, rfl⟩
  case round =>
    obtain ⟨k, i4, hk, rfl, H4, hJs, hnx⟩ := hrel
    have c1 := (cell_hp hnx.1).trans hBs
    have c2 := (cell_hp hnx.2).trans hBn
    have HNX := Lib.hid hnx
    by_cases hlt : i4 < N
    · have hkb : k < nbl N := by have := H4.out; unfold nbl; omega
      obtain ⟨b, o, rfl⟩ := hA (by omega)
      obtain ⟨m, hm⟩ : ∃ m, m = min 4 (N - i4) := ⟨_, rfl⟩
      have hmN : i4 + m ≤ N := by omega
      have hm1 : 1 ≤ m := by omega
      have hmw : IntKind.i64.wrap ((i4 : Int) + (m : Int)) = ((i4 + m : Nat) : Int) := by rw [IntKind.wrap_i64]; omega
      have hmin : min (4 : Int) ((N - i4 : Nat) : Int) = (m : Int) := by omega
      have hval : Hid (bval (some ⟨b, o, none⟩) N k = .slice (some ⟨b, o + i4 * 2, none⟩) m m) := by
        show _ = _
        unfold bval bad blen
        rw [bix_eq N k hkb, ← H4.out, ← hm]
        rfl
      have hltI : (i4 : Int) < (N : Int) := by omega
      obtain ⟨fn, tmps, assign, body, hy, hR⟩ := hY (List.range k) k wr.drew (hJa _ _ _ none hJs ⟨rfl, rfl, rfl, Nat.le_refl _, fun _ _ _ => rfl⟩ (fun r h => by cases h)) (by rw [List.length_range]; exact hkb)
      rw [hval.out] at hy
      clear hJs hnx
      gi_wp2
      gi_region
      all_goals gi_wp2
      · rw [show ((i4 : Int) + ((N - i4 : Nat) : Int)).toNat - i4 = m by omega, hy, Oper.uponIn_round]
        refine ⟨fun _ => hn, ?_⟩
        refine hR.mono ?_
        rintro e W3 (⟨rfl, hJ3, hk3⟩ | ⟨rfl, hJx3⟩)
        · have c3 := (cell_hp hk3.2).trans c2
          gi_wp2
          go_roundw
          case rel => exact ⟨k + 1, i4 + 4, by omega, by go_num, by show _ = _; have := H4.out; omega, by rw [List.range_succ]; exact hJ3, ⟨hk3.1.trans HNX.out.1, hk3.2.trans HNX.out.2⟩⟩
          case measure => simp [intOf]; omega
        · gi_wp2
          refine bodyPost_ret (results_none rfl _ _ _) rfl ?_
          exact ⟨⟨_, rfl⟩, .inr ⟨_, by rw [← List.range_succ]; exact range_pre _ _ hkb, hJx3⟩⟩
      · rw [show ((i4 : Int) + 4).toNat - i4 = m by omega, hy, Oper.uponIn_round]
        refine ⟨fun _ => hn, ?_⟩
        refine hR.mono ?_
        rintro e W3 (⟨rfl, hJ3, hk3⟩ | ⟨rfl, hJx3⟩)
        · have c3 := (cell_hp hk3.2).trans c2
          gi_wp2
          go_roundw
          case rel => exact ⟨k + 1, i4 + 4, by omega, by go_num, by show _ = _; have := H4.out; omega, by rw [List.range_succ]; exact hJ3, ⟨hk3.1.trans HNX.out.1, hk3.2.trans HNX.out.2⟩⟩
          case measure => simp [intOf]; omega
        · gi_wp2
          refine bodyPost_ret (results_none rfl _ _ _) rfl ?_
          exact ⟨⟨_, rfl⟩, .inr ⟨_, by rw [← List.range_succ]; exact range_pre _ _ hkb, hJx3⟩⟩
    · have hke : k = nbl N := by have := H4.out; unfold nbl at hk ⊢; omega
      subst hke
      have hltI : ¬ (i4 : Int) < (N : Int) := by omega
      gi_wp2
      go_end0
      exact ⟨⟨_, rfl⟩, .inl hJs⟩
end Go.Proofs.Ytjigaoclngfcaaa
