/- slices.Values over a slice of spans, slices.AppendSeq, Collect over it. -/
import Derived.Test.YtafbjadlklcicaaMaSv
import Derived.Test.YtafbjadlklcicaaMaIx
import Derived.RangeFuncBox
import Derived.RangeFuncLeaves
import Derived.RangeFuncNested
import Derived.Shelf.Abstract
import Derived.WalkKit
import Derived.OwnWalkIn
import Derived.TacticsInMore
import Derived.LoopNIn
import Derived.LoopIn
import Derived.Maps.AppendAt
import Derived.Sort.OwnSorted
import Derived.Lib.Hide
namespace Go.Proofs.Ytafbjadlklcicaa
open Go.RowKit Go.Shelf Go.Sort
set_option maxRecDepth 100000

attribute [local go_sem] Oper.semAt_some

set_option maxHeartbeats 2000000 in
theorem values1_in (n : Nat) (hn : 1 ≤ n) (l Bs n₀ cap : Nat) (A : Option Addr) (xs : List Sp) (hreach : xs.length ≤ 1000000) (J Jx : List Sp → World → Prop) (B : Nat) (hA : AbidesFrom B J)
    (hY : ∀ pre x W, J pre W → pre.length < xs.length → YieldAt Fence.wide (n - 1) Try.prog l #[spV x] W fun e W' =>
      (e = .returned (.bool true) ∧ J (pre ++ [x]) W' ∧ Below n₀ W W') ∨ (e = .returned (.bool false) ∧ Jx (pre ++ [x]) W'))
    (W : World) (hn₀ : n₀ ≤ W.heap.size) (hBs : W.cell? ⟨Bs, 0, none⟩ = some (.slice A xs.length cap)) (hcs : CS W n₀ A (spCs xs)) (h0 : J [] W) :
    CallsIn Fence.wide n Try.prog 89 #[.func (.yield l) #[] #[], .pointer (some ⟨Bs, 0, none⟩)] W fun e W' => (∃ v, e = .returned v) ∧
      ((∃ ys, ys = xs ∧ J ys W') ∨ (∃ pre, pre <+: xs ∧ Jx pre W')) := by
  obtain ⟨N, hN⟩ : ∃ N, N = xs.length := ⟨_, rfl⟩
  have HN := Lib.hid hN
  rw [← hN] at hBs hreach
  clear hN
  refine callsIn_of_wp Try.func89 rfl trivial ?_ rfl
  simp only [Try.ntmps89, List.size_toArray, List.length_cons, List.length_nil, Nat.reduceAdd, Nat.reduceSub, Array.replicate_succ, Array.replicate_zero, List.push_toArray, List.append_toArray, List.nil_append, List.cons_append]
  gi_wp2
  gi_loopw [7] (fun i wr => ∃ k : Nat, k ≤ N ∧ i = .int .i64 k ∧ J (xs.take k) wr ∧ Below n₀ W wr)
    (fun i _ => N - (intOf i).toNat)
  case atStart => exact ⟨0, Nat.zero_le _, rfl, h0, Below.refl _ _⟩
  case round =>
    obtain ⟨k, hk, rfl, hJs, hnx⟩ := hrel
    by_cases hlt : k < N
    · have hkx : k < xs.length := by rw [← HN.out]; exact hlt
      obtain ⟨b, off, rfl, hb, hc⟩ := hcs (by rw [spCs_len]; omega)
      obtain ⟨x, hx⟩ : ∃ x, x = xs[k] := ⟨_, rfl⟩
      obtain ⟨c0, c1, c2, c3⟩ := spCs_at xs k hkx
      have e0 := (hnx.cell (p := ⟨b, off + k * 4, none⟩) hb).trans (hc _ _ c0)
      have e1 := (hnx.cell (p := ⟨b, off + (k * 4 + 1), none⟩) hb).trans (hc _ _ c1)
      have e2 := (hnx.cell (p := ⟨b, off + (k * 4 + 2), none⟩) hb).trans (hc _ _ c2)
      have e3 := (hnx.cell (p := ⟨b, off + (k * 4 + 3), none⟩) hb).trans (hc _ _ c3)
      rw [← Nat.add_assoc] at e1 e2 e3
      rw [← hx] at e0 e1 e2 e3
      have htk : xs.take (k + 1) = xs.take k ++ [x] := by rw [hx]; exact List.take_succ_eq_append_getElem hkx
      have bX : Below wr.heap.size wr (wr.alloc (.cells #[.int .i64 x.1, .int .i64 x.2.1, .int .i64 x.2.2.1, .int .i64 x.2.2.2] 26)) := (Below.refl _ _).alloc (Nat.le_refl _) _
      have hJX := hA _ _ _ none hJs (World.grownBy_alloc wr (.cells #[.int .i64 x.1, .int .i64 x.2.1, .int .i64 x.2.2.1, .int .i64 x.2.2.2] 26) none) (fun r h => by cases h)
      obtain ⟨fn, tmps, assign, body, hy, hR⟩ := hY (xs.take k) x _ hJX (by rw [List.length_take]; omega)
      have HTK := Lib.hid htk
      have HNX := Lib.hid (hnx.trans (bX.mono (Nat.le_trans hn₀ hnx.size)))
      have HLT := Lib.hid hlt
      clear htk hx bX hJX hJs c0 c1 c2 c3 hc
      unfold spV at hy
      obtain ⟨f, t, u, v⟩ := x
      simp only at e0 e1 e2 e3 hy hR
      gi_wp2
      refine hR.mono ?_
      rintro e W3 (⟨rfl, hJ3, hk3⟩ | ⟨rfl, hJx3⟩)
      · gi_wp2
        go_roundw
        case rel => exact ⟨k + 1, HLT.out, by simp, by rw [HTK.out]; exact hJ3, HNX.out.trans hk3⟩
        case measure => have := HLT.out; simp [intOf]; omega
      · gi_wp2
        refine bodyPost_ret (results_none rfl _ _ _) rfl ?_
        exact ⟨⟨_, rfl⟩, .inr ⟨_, by rw [← HTK.out]; exact List.take_prefix _ _, hJx3⟩⟩
    · have hke : k = N := by omega
      have he : xs.take k = xs := List.take_of_length_le (by rw [← HN.out]; omega)
      have HE := Lib.hid he
      clear he
      gi_wp2
      go_end0
      exact ⟨⟨_, rfl⟩, .inl ⟨_, HE.out, hJs⟩⟩
theorem values_stops (n : Nat) (hn : 1 ≤ n) (Bs n₀ cap : Nat) (A : Option Addr) (xs : List Sp) (hreach : xs.length ≤ 1000000) (w : World) (hBs : Bs < w.heap.size) (hn₀ : n₀ ≤ w.heap.size)
    (hc : w.cell? ⟨Bs, 0, none⟩ = some (.slice A xs.length cap)) (hI : CS w n₀ A (spCs xs)) :
    SeqStopsK Fence.wide n Try.prog 89 #[.pointer (some ⟨Bs, 0, none⟩)] (fun x : Sp => #[spV x]) (Below n₀) (fun ys => ys = xs) (fun pre => pre <+: xs) xs.length w := fun l J Jx W hW hA _ hY h0 =>
  values1_in n hn l Bs n₀ cap A xs hreach J Jx _ hA hY W (Nat.le_trans hn₀ hW.size) ((hW.cell (p := ⟨Bs, 0, none⟩) hBs).trans hc) (hI.below (hW.mono hn₀)) h0
set_option maxHeartbeats 1000000 in
theorem values_in (n : Nat) (A : Option Addr) (len cap : Nat) (w : World) :
    CallsIn Fence.wide n Try.prog 71 #[.slice A len cap] w fun e w' => e = .returned (.func (.func 89) #[] #[.pointer (some ⟨w.heap.size, 0, none⟩)]) ∧ w' = w.alloc (.cells #[.slice A len cap] 28) := by
  refine callsIn_of_wp Try.func71 rfl trivial ?_ rfl
  simp only [Try.ntmps71, List.size_toArray, List.length_cons, List.length_nil, Nat.reduceAdd, Nat.reduceSub, Array.replicate_succ, Array.replicate_zero, List.push_toArray, List.append_toArray, List.nil_append, List.cons_append]
  gi_wp2
  go_ret
  exact ⟨rfl, rfl⟩
/-- A block that holds just one span. -/
def Box4 (W : World) (E : Nat) (x : Sp) : Prop := W.heap[E]? = some (.cells #[.int .i64 x.1, .int .i64 x.2.1, .int .i64 x.2.2.1, .int .i64 x.2.2.2] 26 (0, 0))
theorem Box4.cells {W : World} {E : Nat} {x : Sp} (h : Box4 W E x) : W.cell? ⟨E, 0, none⟩ = some (.int .i64 x.1) ∧ W.cell? ⟨E, 1, none⟩ = some (.int .i64 x.2.1) ∧ W.cell? ⟨E, 2, none⟩ = some (.int .i64 x.2.2.1) ∧ W.cell? ⟨E, 3, none⟩ = some (.int .i64 x.2.2.2) := by
  simp [World.cell?, show W.heap[E]? = _ from h]
theorem box4_own {β : Type} (E : Nat) (f : β → Sp) : Own (fun s W => Box4 W E (f s)) := by
  rintro s X Y row hv hg hrow
  refine (hg.block E (Array.getElem?_eq_some_iff.1 hv).1 (fun e' => ?_)).trans hv
  obtain ⟨o, ho, hc⟩ := hrow E e'.symm
  rw [show X.heap[E]? = _ from hv] at ho
  cases ho
  cases hc
set_option maxHeartbeats 4000000 in
theorem apseq_in (n : Nat) (hn : 3 ≤ n) (Bs cap : Nat) (A : Option Addr) (xs : List Sp) (hreach : xs.length ≤ 1000000) (w : World) (hBs : Bs < w.heap.size) (hc : w.cell? ⟨Bs, 0, none⟩ = some (.slice A xs.length cap)) (hI : CS w w.heap.size A (spCs xs)) :
    CallsIn Fence.wide n Try.prog 92 #[.slice none 0 0, .func (.func 89) #[] #[.pointer (some ⟨Bs, 0, none⟩)]] w fun e W' => ∃ v, e = .returned v ∧ W'.ownsRow w.heap.size 26 4 v xs.length (spCs xs) ∧ (v = .slice none 0 0 ↔ xs = []) ∧ Below w.heap.size w W' := by
  have h1 : 1 ≤ n := by omega
  obtain ⟨i0, hi, hz0, hz1, hz2⟩ := info_parts infoSp
  refine callsIn_of_wp_marks Try.func92 rfl trivial ?_ rfl
  simp only [Try.ntmps92, List.size_toArray, List.length_cons, List.length_nil, Nat.reduceAdd, Nat.reduceSub, Array.replicate_succ, Array.replicate_zero, List.push_toArray, List.append_toArray, List.nil_append, List.cons_append]
  gi_wp2
  have bO := Boxed.new w 28 (.slice none 0 0)
  have hB0 : Below w.heap.size w (w.alloc (.cells #[.slice none 0 0] 28)) := (Below.refl _ w).alloc (Nat.le_refl _) _
  refine wpIn_rangeFunc_ownH rfl h1 (gf := 89) (lb := #[.pointer (some ⟨Bs, 0, none⟩)]) rfl trivial (enters_of Try.func89 (by kernel_rfl) rfl)
    (values_stops (n - 1) (by omega) Bs w.heap.size cap A xs hreach _ (by simp; omega) (by simp) ((hB0.cell (p := ⟨Bs, 0, none⟩) hBs).trans hc) (hI.below hB0)) belowK_t (belowK_b (by simp)) (Below.refl _ _) (fun _ => rfl)
    (fun pre W => (∃ v, Boxed W w.heap.size 28 v ∧ W.ownsRow w.heap.size 26 4 v pre.length (spCs pre) ∧ (v = .slice none 0 0 ↔ pre = [])) ∧ Below w.heap.size w W)
    (fun _ _ _ => False)
    (OwnFrom.and (Own.from (holdsRow_own w.heap.size w.heap.size 28 26 4 (fun pre : List Sp => pre.length) (fun pre => spCs pre) (fun pre v => v = .slice none 0 0 ↔ pre = [])) _) (ownFrom_below (Nat.le_refl _) (by simp)))
    (fun _ _ _ _ _ hs _ _ => hs)
    ⟨⟨_, bO, World.ownsRow_nil _ _ _ _, by simp⟩, hB0⟩
    (fun x a' W => ∃ E, a' = { tmps := #[.slice none 0 0, .func (.func 89) #[] #[.pointer (some ⟨Bs, 0, none⟩)], .pointer (some ⟨w.heap.size, 0, none⟩), undef, .slice none 0 0, .pointer (some ⟨E, 0, none⟩), .func (.func 89) #[] #[.pointer (some ⟨Bs, 0, none⟩)], spV x, undef, undef, undef, undef, undef], defers := [] } ∧ Box4 W E x ∧ w.heap.size < E)
    ?ax ?assign ?body ?done ?stop
  case ax =>
    rintro x a' s X Y row ⟨E, h1, h2, h3⟩ hg hr
    exact ⟨E, h1, box4_own E (fun _ : Unit => x) () X Y row h2 hg (fun b hb => (hr b hb).2), h3⟩
  case assign =>
    rintro l pre x W K ⟨⟨v, hv, hrow, hnil⟩, hB⟩ hK
    unfold spV
    gi_wp2
    have hlw := hv.lt
    exact hK _ _ (KeepsFrom.of_grownBy (World.grownBy_alloc W _ none) (fun j h => by cases h)) ((Below.refl _ _).alloc hB.size _) ⟨⟨v, hv.alloc _, hrow.alloc _, hnil⟩, hB.alloc hB.size _⟩ ⟨W.heap.size, rfl, World.alloc_heap_new W _, hlw⟩
  case body =>
    rintro l pre x a' W _ _ ⟨⟨v, hv, hrow, hnil⟩, hB⟩ ⟨E, rfl, hE, hlE⟩ hlt
    have hc := hv.cell
    obtain ⟨e0, e1, e2, e3⟩ := hE.cells
    unfold spV
    gi_wp2_with (gi_at_builtin; refine wpListIn_append_own _ rfl _ _ 28 rfl w.heap.size 26 i0 (.agg #[.int .i64 0, .int .i64 0, .int .i64 0, .int .i64 0]) 4 32 Try.underlying28 hi hz0 hz1 hz2 rfl (by decide) _ _ _ rfl (hrow.alloc _) ⟨W.heap.size, 0, none⟩ 1 1 (spC x) rfl rfl (fun j u hu => new_cells W (spC x).toArray 26 (0, 0) j u (by simpa using hu)) (spC_one x) (by unfold maxLen; omega) (by omega) (by have := hB.size; simp; omega) ?_; intro v' w1 hown' hgrow _; obtain ⟨g', cap', rfl⟩ := ownsRow_succ hown'; obtain ⟨hv1, hv2, hr2, hk2, hb2⟩ := hv.appended (by decide) hrow hB.size (Nat.le_refl _) hown' hgrow; have hc1 := hv1.cell; have hf1 := hv1.frozen)
    have e : spCs (pre ++ [x]) = spCs pre ++ spC x := by rw [spCs_app]; rfl
    exact ⟨hk2.from _, hb2, ⟨_, hv2, by rw [e, List.length_append]; exact hr2, by simp⟩, hB.trans hb2⟩
  case done =>
    rintro D ys W hD rfl ⟨⟨v, hv, hrow, hnil⟩, hB⟩ hK
    have hc := hv.cell
    gi_wp2
    refine ⟨by simp, .inl ⟨_, _, rfl, run_takeDeferred hK, ?_⟩⟩
    exact ⟨_, results_tmp rfl _ _ _, v, rfl, ownsRow_putObj hrow _ hK rfl, hnil, hB.trans (belowK_b (w := w) (Nat.le_refl _) W D _ _ (by simp at hD; omega) hK rfl rfl)⟩
  case stop =>
    rintro D c pre W _ _ h _
    exact h.elim
end Go.Proofs.Ytafbjadlklcicaa
