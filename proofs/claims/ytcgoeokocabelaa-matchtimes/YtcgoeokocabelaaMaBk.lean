/- A block of integers that is stored into; slices.Backward over it. -/
import Derived.Test.YtcgoeokocabelaaMaCh
import Derived.Test.YtcgoeokocabelaaChecked
import Derived.Test.YtcgoeokocabelaaCs
import Derived.RangeFuncBox
import Derived.RangeFuncLeaves
import Derived.RangeFuncWrites
import Derived.Shelf.Abstract
import Derived.WalkKit
import Derived.OwnWalkIn
import Derived.TacticsInMore
import Derived.LoopNIn
import Derived.LoopIn
import Derived.Lib.Hide
namespace Go.Proofs.Ytcgoeokocabelaa
open Go.RowKit Go.Shelf
set_option maxRecDepth 100000

attribute [local go_sem] Oper.semAt_some

def ciV (c : List Nat) : List Value := c.map fun (x : Nat) => Value.int .i64 (x : Int)
/-- A block that holds just these integers. -/
def CH (W : World) (b : Nat) (c : List Nat) : Prop := W.heap[b]? = some (.cells (ciV c).toArray 3 (0, 0))
theorem CH.lt {W : World} {b : Nat} {c : List Nat} (h : CH W b c) : b < W.heap.size := (Array.getElem?_eq_some_iff.1 h).1
theorem CH.cell {W : World} {b : Nat} {c : List Nat} (h : CH W b c) (k : Nat) (hk : k < c.length) : W.cell? ⟨b, k, none⟩ = some (.int .i64 (c[k] : Int)) := by
  simp [World.cell?, show W.heap[b]? = _ from h, ciV, hk]
theorem CH.frozen {W : World} {b : Nat} {c : List Nat} (h : CH W b c) (k : Nat) : W.frozen? ⟨b, k, none⟩ = false := by simp [World.frozen?, show W.heap[b]? = _ from h]
theorem CH.same {W W' : World} {b : Nat} {c : List Nat} (h : CH W b c) (e : W'.heap[b]? = W.heap[b]?) : CH W' b c := e.trans h
theorem CH.kept {W W' : World} {row : Option Nat} {b : Nat} {c : List Nat} (h : CH W b c) (hg : W.grownBy W' row) (hne : some b ≠ row) : CH W' b c := h.same (hg.block b h.lt hne)
theorem CH.below {W W' : World} {b : Nat} {c : List Nat} (h : CH W b c) (hb : Below W.heap.size W W') : CH W' b c := h.same (hb.block b h.lt)
theorem CH.set {W : World} {b : Nat} {c : List Nat} (h : CH W b c) (k x : Nat) : CH (W.setCell ⟨b, k, none⟩ (.int .i64 (x : Int))) b (c.set k x) := by
  obtain ⟨hlt, hk⟩ := Array.getElem?_eq_some_iff.1 h
  show (W.heap.modify b _)[b]? = _
  rw [Array.getElem?_eq_getElem (by rw [Array.size_modify]; exact hlt), Array.getElem_modify_self, hk]
  congr 2
  unfold ciV
  simp [List.map_set]
theorem ch_own {β : Type} (b : Nat) (f : β → List Nat) : Own (fun s W => CH W b (f s)) := by
  rintro s X Y row hv hg hrow
  exact hv.kept hg (fun e' => by
    obtain ⟨o, ho, hc⟩ := hrow b e'.symm
    rw [show X.heap[b]? = _ from hv] at ho; cases ho; cases hc)
theorem own_boxN {β : Type} (B : Nat) (t : TypeId) (f : β → Value) : Own (fun s W => Boxed W B t (f s)) := by
  rintro s X Y row hv hg hrow
  exact hv.kept hg (fun e' => by
    obtain ⟨o, ho, hc⟩ := hrow B e'.symm
    rw [show X.heap[B]? = _ from hv] at ho; cases ho; cases hc)
/-- What grew, and what was stored into a new block or into that one. -/
theorem gb_set {w W : World} {row : Option Nat} (h : w.grownBy W row) {p : Addr} (v : Value) (hp : w.heap.size ≤ p.block ∨ row = some p.block) : w.grownBy (W.setCell p v) row := by
  obtain ⟨h1, h2, h3, h4, h5⟩ := h
  refine ⟨h1, h2, h3, by simpa [World.setCell] using h4, fun k hk hne => ?_⟩
  rw [Below.heap_setCell _ _ _ _ (fun e => ?_)]
  · exact h5 k hk hne
  · rcases hp with hp | hp
    · omega
    · exact hne (by rw [hp, e])
/-- Two blocks stay. -/
def K2 (A B : Nat) (W W' : World) : Prop := W'.heap[A]? = W.heap[A]? ∧ W'.heap[B]? = W.heap[B]?
/-- The places, from the last one on. -/
def full (N : Nat) : List (Fin N) := (List.finRange N).reverse
theorem full_len (N : Nat) : (full N).length = N := by simp [full]
theorem full_at (N k : Nat) (hk : k < N) : (full N)[k]'(by rw [full_len]; exact hk) = ⟨N - 1 - k, by omega⟩ := by
  apply Fin.ext
  simp [full]
def encB (c : List Nat) (x : Fin c.length) : Array Value := #[.int .i64 ((x.val : Nat) : Int), .int .i64 (c[x.val] : Int)]
set_option maxHeartbeats 2000000 in
theorem back1_in (n : Nat) (hn : 1 ≤ n) (l Bs b cap N : Nat) (c : List Nat) (HN : Hid (N = c.length)) (hreach : N ≤ 1000) (J Jx : List (Fin c.length) → World → Prop)  (W : World)
    (hY : ∀ pre x W, J pre W → pre.length < c.length → YieldAt Fence.wide (n - 1) Try.prog l (encB c x) W fun e W' =>
      (e = .returned (.bool true) ∧ J (pre ++ [x]) W' ∧ K2 b Bs W W') ∨ (e = .returned (.bool false) ∧ Jx (pre ++ [x]) W'))
    (hBs : Boxed W Bs 45 (.slice (some ⟨b, 0, none⟩) N cap)) (hcs : CH W b c) (h0 : J [] W) :
    CallsIn Fence.wide n Try.prog 127 #[.func (.yield l) #[] #[], .pointer (some ⟨Bs, 0, none⟩)] W fun e W' => (∃ v, e = .returned v) ∧
      ((∃ ys, ys = full c.length ∧ J ys W') ∨ (∃ pre, pre <+: full c.length ∧ Jx pre W')) := by
  have hw0 : IntKind.i64.wrap ((N : Int) - 1) = (N : Int) - 1 := by rw [IntKind.wrap_i64]; omega
  refine callsIn_of_wp Try.func127 rfl trivial ?_ rfl
  simp only [Try.ntmps127, List.size_toArray, List.length_cons, List.length_nil, Nat.reduceAdd, Nat.reduceSub, Array.replicate_succ, Array.replicate_zero, List.push_toArray, List.append_toArray, List.nil_append, List.cons_append]
  have hcell := hBs.cell
  gi_wp2
  gi_loopw [3] (fun i wr => ∃ (k : Nat) (z : Int), k ≤ N ∧ i = .int .i64 z ∧ Hid (z = (N : Int) - 1 - k) ∧ J ((full c.length).take k) wr ∧ K2 b Bs W wr)
    (fun i _ => (intOf i + 1).toNat)
  case atStart => exact ⟨0, _, Nat.zero_le _, rfl, (by show _ = _; omega), h0, rfl, rfl⟩
  case round =>
    obtain ⟨k, z, hk, rfl, HZ, hJs, hnx⟩ := hrel
    have HJ := Lib.hid hJs
    have HNX := Lib.hid hnx
    have hB2 : Boxed wr Bs 45 (.slice (some ⟨b, 0, none⟩) N cap) := hnx.2.trans hBs
    have hC2 : CH wr b c := hnx.1.trans hcs
    have hc2 := hB2.cell
    clear hnx hJs
    by_cases hlt : k < N
    · have hkc : k < c.length := by rw [← HN.out]; exact hlt
      obtain ⟨m, rfl⟩ : ∃ m : Nat, z = (m : Int) := ⟨N - 1 - k, by have := HZ.out; omega⟩
      have hm : m = N - 1 - k := by have := HZ.out; omega
      have hmc : m < c.length := by rw [← HN.out]; omega
      have hge : decide ((0 : Int) ≤ (m : Int)) = true := decide_eq_true (by omega)
      have hcx := hC2.cell m hmc
      have HX : Hid ((full c.length).take (k + 1) = (full c.length).take k ++ [⟨m, hmc⟩]) := by
        show _ = _
        rw [List.take_succ_eq_append_getElem (by rw [full_len]; exact hkc), full_at _ _ hkc]
        congr 2
        apply Fin.ext
        show c.length - 1 - k = m
        rw [hm, HN.out]
      obtain ⟨fn, tmps, assign, body, hy, hR⟩ := hY ((full c.length).take k) ⟨m, hmc⟩ wr HJ.out (by rw [List.length_take, full_len]; omega)
      have hdw : IntKind.i64.wrap ((m : Int) - 1) = (m : Int) - 1 := by rw [IntKind.wrap_i64]; omega
      have hmN : m < N := by omega
      unfold encB at hy
      simp only at hy
      obtain ⟨cx, hcx'⟩ : ∃ cx, cx = c[m] := ⟨_, rfl⟩
      rw [← hcx'] at hcx hy
      have HL : Hid (k + 1 ≤ N) := hlt
      clear hcx' hm hkc
      gi_wp2
      refine hR.mono ?_
      rintro e W3 (⟨rfl, hJ3, hk3⟩ | ⟨rfl, hJx3⟩)
      · gi_wp2
        go_roundw
        case rel => exact ⟨k + 1, _, HL.out, rfl, (by show _ = _; have := HZ.out; omega), by rw [HX.out]; exact hJ3, ⟨hk3.1.trans HNX.out.1, hk3.2.trans HNX.out.2⟩⟩
        case measure => simp [intOf]
      · gi_wp2
        refine bodyPost_ret (results_none rfl _ _ _) rfl ?_
        exact ⟨⟨_, rfl⟩, .inr ⟨_, by rw [← HX.out]; exact List.take_prefix _ _, hJx3⟩⟩
    · have hkN : k = N := by omega
      obtain rfl : z = -1 := by have := HZ.out; omega
      have he : (full c.length).take k = full c.length := List.take_of_length_le (by rw [full_len, hkN, HN.out]; exact Nat.le_refl _)
      have HE := Lib.hid he
      clear he hkN
      gi_wp2
      go_end0
      exact ⟨⟨_, rfl⟩, .inl ⟨_, HE.out, HJ.out⟩⟩
theorem back_stops (n : Nat) (hn : 1 ≤ n) (Bs b cap N : Nat) (c : List Nat) (HN : Hid (N = c.length)) (hreach : N ≤ 1000) (w : World) (hc : Boxed w Bs 45 (.slice (some ⟨b, 0, none⟩) N cap)) (hI : CH w b c) :
    SeqStopsK Fence.wide n Try.prog 127 #[.pointer (some ⟨Bs, 0, none⟩)] (encB c) (K2 b Bs) (fun ys => ys = full c.length) (fun pre => pre <+: full c.length) c.length w := fun l J Jx W hW _ _ hY h0 =>
  back1_in n hn l Bs b cap N c HN hreach J Jx W hY ((hW.block Bs hc.lt).trans hc) (hI.below hW) h0
set_option maxHeartbeats 1000000 in
theorem back_in (n : Nat) (A : Option Addr) (len cap : Nat) (w : World) :
    CallsIn Fence.wide n Try.prog 115 #[.slice A len cap] w fun e w' => e = .returned (.func (.func 127) #[] #[.pointer (some ⟨w.heap.size, 0, none⟩)]) ∧ w' = w.alloc (.cells #[.slice A len cap] 45) := by
  refine callsIn_of_wp Try.func115 rfl trivial ?_ rfl
  simp only [Try.ntmps115, List.size_toArray, List.length_cons, List.length_nil, Nat.reduceAdd, Nat.reduceSub, Array.replicate_succ, Array.replicate_zero, List.push_toArray, List.append_toArray, List.nil_append, List.cons_append]
  gi_wp2
  go_ret
  exact ⟨rfl, rfl⟩
end Go.Proofs.Ytcgoeokocabelaa
