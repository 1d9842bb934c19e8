/- slices.ContainsFunc over attributes, with the closure that asks for a name. -/
import Derived.Test.YtbehfhdkdekjfaaDoorXmAttr
namespace Go.Proofs.YtbehfhdkdekjfaaDoor
open Go.RowKit
set_option maxRecDepth 100000

theorem str_eq (a b : L8) : ((strOf a).toList == (strOf b).toList) = decide (a = b) := by
  rw [ByteArray.toList_eq, ByteArray.toList_eq, str_data, str_data, Bool.eq_iff_iff, beq_iff_eq, decide_eq_true_eq]
def atCells (xs : List At) : List Value := xs.flatMap fun a => [.string (strOf a.1), .string (strOf a.2)]
theorem atCells_len (xs : List At) : (atCells xs).length = xs.length * 2 := by
  induction xs with
  | nil => rfl
  | cons p t ih => rw [show atCells (p :: t) = [.string (strOf p.1), .string (strOf p.2)] ++ atCells t from rfl, List.length_append, ih]; simp; omega
theorem atCells_snoc (xs : List At) (a : At) : atCells (xs ++ [a]) = atCells xs ++ [.string (strOf a.1), .string (strOf a.2)] := by simp [atCells]
theorem atCells_at : ∀ (xs : List At) (k : Nat) (h : k < xs.length), (atCells xs)[k * 2]? = some (.string (strOf xs[k].1)) ∧ (atCells xs)[k * 2 + 1]? = some (.string (strOf xs[k].2))
  | [], k, h => by simp at h
  | p :: t, 0, _ => ⟨rfl, rfl⟩
  | p :: t, k + 1, h => by
    have ih := atCells_at t k (by simpa using h)
    rw [show atCells (p :: t) = [.string (strOf p.1), .string (strOf p.2)] ++ atCells t from rfl]
    rw [List.getElem?_append_right (by simp; omega), List.getElem?_append_right (by simp; omega)]
    simp only [List.length_cons, List.length_nil, List.getElem_cons_succ]
    rw [show (k + 1) * 2 - (0 + 1 + 1) = k * 2 by omega, show (k + 1) * 2 + 1 - (0 + 1 + 1) = k * 2 + 1 by omega]
    exact ih
set_option maxHeartbeats 1000000 in
theorem clos_any (a : At) (nm : L8) (N : Nat) (w : World) (hN : w.cell? ⟨N, 0, none⟩ = some (.string (strOf nm))) :
    Calls Tryd.prog 80 #[.agg #[.string (strOf a.1), .string (strOf a.2)], .pointer (some ⟨N, 0, none⟩)] w fun e w' => e = .returned (.bool (decide (a.1 = nm))) ∧ Below w.heap.size w w' := by
  have hlt := World.block_lt_of_cell? w _ hN
  have hN' : (w.alloc (.cells #[.string (strOf a.1), .string (strOf a.2)] 41)).cell? ⟨N, 0, none⟩ = some (.string (strOf nm)) := by rw [World.cell?_alloc_past _ _ _ hlt]; exact hN
  have he := str_eq a.1 nm
  have hbx := (box2 (w := w) (a := .string (strOf a.1)) (b := .string (strOf a.2)) (T := 41)).1
  go_enter Tryd.func80, Tryd.ntmps80
  go_wp2_with fail
  go_ret
  exact ⟨rfl, (Below.refl _ _).alloc (Nat.le_refl _) _⟩
theorem eg_clos : ∀ args W, (callFunc 80 args).run Tryd.prog W = .ok (.enter 80 args) W := fun args W => enter_of Tryd.func80 (by kernel_rfl) (by kernel_rfl) args W
set_option maxHeartbeats 2000000 in
theorem idxA_any (xs : List At) (nm : L8) (A : Option Addr) (c N : Nat) (w : World) (hx : xs.length ≤ 1000000) (hN : w.cell? ⟨N, 0, none⟩ = some (.string (strOf nm))) (hc : CS w w.heap.size A (atCells xs)) :
    Calls Tryd.prog 93 #[.slice A xs.length c, .func (.func 80) #[] #[.pointer (some ⟨N, 0, none⟩)]] w fun e w' => (∃ z : Int, e = .returned (.int .i64 z) ∧ (xs.any fun b => b.1 == nm) = decide (0 ≤ z)) ∧ Below w.heap.size w w' := by
  have HC := Lib.hid hc
  have HN := Lib.hid hN
  have eg := eg_clos
  have hltN := World.block_lt_of_cell? w _ hN
  obtain ⟨n, hn⟩ : ∃ n, n = xs.length := ⟨_, rfl⟩
  have HL := Lib.hid hn
  rw [← hn] at hx ⊢
  clear hc hN hn
  go_enter Tryd.func93, Tryd.ntmps93
  go_wp2_with fail
  go_loopg [8] n (fun gg i wr => ∃ k : Nat, k ≤ n ∧ n - k ≤ gg ∧ i = .int .i64 k ∧ Hid (Below w.heap.size w wr) ∧ Hid ((xs.take k).any (fun b => b.1 == nm) = false))
  case atStart => exact ⟨0, Nat.zero_le _, by omega, rfl, Below.refl _ w, rfl⟩
  case round =>
    obtain ⟨k, hk, hg, rfl, HB, HA⟩ := hrel
    by_cases hlt : k < n
    · have hkx : k < xs.length := by rw [← HL.out]; exact hlt
      obtain ⟨b, o, hA, hbB, hcells⟩ := HC.out (by rw [atCells_len]; omega)
      subst hA
      have l0 : wr.cell? ⟨b, o + k * 2, none⟩ = some (.string (strOf xs[k].1)) := (HB.out.cell (p := ⟨b, _, none⟩) hbB).trans (hcells _ _ (atCells_at xs k hkx).1)
      have l1 : wr.cell? ⟨b, o + k * 2 + 1, none⟩ = some (.string (strOf xs[k].2)) := by rw [Nat.add_assoc]; exact (HB.out.cell (p := ⟨b, _, none⟩) hbB).trans (hcells _ _ (atCells_at xs k hkx).2)
      have HCl := Lib.hid (clos_any xs[k] nm N wr ((HB.out.cell (p := ⟨N, 0, none⟩) hltN).trans HN.out))
      have HT := Lib.hid (List.take_succ_eq_append_getElem hkx)
      generalize xs[k] = y at *
      obtain ⟨y1, y2⟩ := y
      simp only at l0 l1 HCl
      clear hcells hkx
      by_cases hy : y1 = nm
      · rw [decide_eq_true hy] at HCl
        have HY := Lib.hid hy
        clear hy
        go_wp2_with (go_at_fn 80; refine HCl.out.mono ?_; rintro e w' ⟨rfl, hb'⟩)
        go_ret
        refine ⟨⟨_, rfl, ?_⟩, HB.out.trans (hb'.mono HB.out.size)⟩
        rw [decide_eq_true (by omega)]
        have hm : (y1, y2) ∈ xs := List.mem_of_mem_take (i := k + 1) (by rw [HT.out]; simp)
        rw [List.any_eq_true]
        exact ⟨_, hm, by simpa using HY.out⟩
      · rw [decide_eq_false hy] at HCl
        have HA2 : Hid ((xs.take (k + 1)).any (fun b => b.1 == nm) = false) := by
          show _ = _
          rw [HT.out, List.any_append, HA.out]
          simpa using hy
        clear hy HT
        go_wp2_with (go_at_fn 80; refine HCl.out.mono ?_; rintro e w' ⟨rfl, hb'⟩)
        go_roundg (n - (k + 1))
        case rel => exact ⟨k + 1, by omega, Nat.le_refl _, by go_num, HB.out.trans (hb'.mono HB.out.size), HA2⟩
        case measure => omega
    · obtain rfl : k = n := by omega
      go_wp2_with fail
      go_ret
      refine ⟨⟨_, rfl, ?_⟩, HB.out⟩
      have := HA.out
      rw [HL.out, List.take_length] at this
      rw [this]; rfl
set_option maxHeartbeats 1000000 in
theorem cf_any (xs : List At) (nm : L8) (A : Option Addr) (c N : Nat) (w : World) (hx : xs.length ≤ 1000000) (hN : w.cell? ⟨N, 0, none⟩ = some (.string (strOf nm))) (hc : CS w w.heap.size A (atCells xs)) :
    Calls Tryd.prog 79 #[.slice A xs.length c, .func (.func 80) #[] #[.pointer (some ⟨N, 0, none⟩)]] w fun e w' => e = .returned (.bool (xs.any fun b => b.1 == nm)) ∧ Below w.heap.size w w' := by
  have HC := Lib.hid (idxA_any xs nm A c N w hx hN hc)
  clear hc hN
  go_enter Tryd.func79, Tryd.ntmps79
  go_wp2_with fail
  refine HC.out.mono ?_
  rintro e w1 ⟨⟨z, rfl, hz⟩, b1⟩
  have HZ := Lib.hid hz
  clear hz
  go_wp2_with fail
  go_ret
  exact ⟨ret_bool HZ.out.symm, b1⟩
end Go.Proofs.YtbehfhdkdekjfaaDoor
