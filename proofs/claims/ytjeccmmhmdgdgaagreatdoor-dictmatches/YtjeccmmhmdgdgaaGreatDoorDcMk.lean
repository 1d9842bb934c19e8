/- dict.Make. -/
import Derived.Test.YtjeccmmhmdgdgaaGreatDoorDcSq
import Derived.Test.YtjeccmmhmdgdgaaGreatDoorDcSpec
import Derived.Test.YtjeccmmhmdgdgaaGreatDoorShelf
import Derived.Shelf.Slices.In.SortNone
import Derived.Deep.RegionLaw
import Derived.Deep.AppendLies
import Derived.Deep.RegionHeld3
import Derived.BigRegion
import Derived.Handy
import Derived.OwnWalk
import Derived.LoopTactic
import Derived.Outline
namespace Go.Proofs.YtjeccmmhmdgdgaaGreatDoor.Dc
open Go.RowKit Go.Sort
set_option maxRecDepth 100000

theorem values_any (A : Option Addr) (len cap : Nat) (w : World) :
    Calls Tryz.prog 18 #[.slice A len cap] w fun e w' => e = .returned (.func (.func 37) #[] #[.pointer (some ⟨w.heap.size, 0, none⟩)]) ∧ w' = w.alloc (.cells #[.slice A len cap] 22) := (callsIn_wide (n := 1)).1 (values_in 1 A len cap w)
theorem collect_any (Bs cap : Nat) (A : Option Addr) (xs : List TX) (hreach : xs.length ≤ 1000000) (w : World) (hBs : Bs < w.heap.size) (hc : w.cell? ⟨Bs, 0, none⟩ = some (.slice A xs.length cap)) (hI : CS w w.heap.size A (xs.map encStr)) :
    Calls Tryz.prog 35 #[.func (.func 37) #[] #[.pointer (some ⟨Bs, 0, none⟩)]] w fun e W' => ∃ v, e = .returned v ∧ W'.ownsRow w.heap.size 9 1 v xs.length (xs.map encStr) ∧ (v = .slice none 0 0 ↔ xs = []) ∧ Below w.heap.size w W' := (callsIn_wide (n := 4)).1 (collect_in 4 (by omega) Bs cap A xs hreach w hBs hc hI)
set_option maxHeartbeats 2000000 in
theorem sorted_any (Bs cap : Nat) (A : Option Addr) (xs : List TX) (hreach : xs.length ≤ 1000000) (w : World) (hBs : Bs < w.heap.size) (hc : w.cell? ⟨Bs, 0, none⟩ = some (.slice A xs.length cap)) (hI : CS w w.heap.size A (xs.map encStr)) :
    Calls Tryz.prog 17 #[.func (.func 37) #[] #[.pointer (some ⟨Bs, 0, none⟩)]] w fun e W' => ∃ v, e = .returned v ∧ W'.ownsRow w.heap.size 9 1 v xs.length ((srt xs).map encStr) ∧ Below w.heap.size w W' := by
  have HC := Lib.hid (collect_any Bs cap A xs hreach w hBs hc hI)
  clear hc hI
  go_enter Tryz.func17, Tryz.ntmps17
  go_wp2_with fail
  refine HC.out.mono ?_
  rintro e W ⟨v, rfl, hrow, hnil, hb⟩
  have HB := Lib.hid hb
  have HR := Lib.hid hrow
  have HN := Lib.hid hnil
  clear hb hrow hnil
  rcases HR.out.2 with ⟨rfl, hz⟩ | ⟨gb, cap2, cur, rfl, hbase, hgb, r1, r2, r3, r4⟩
  · have hss : xs = [] := List.eq_nil_of_length_eq_zero hz
    subst hss
    go_wp2_with fail
    refine (Any.slices_Sort_string_none Tryz.lays190 none 0 W).mono ?_
    rintro e w' ⟨rfl, rfl⟩
    go_wp2_with fail
    go_ret
    exact ⟨.slice none 0 0, rfl, by rw [show srt ([] : List TX) = [] from by simp [srt]]; exact HR.out, HB.out⟩
  · have hH : Holds encStr W gb 0 xs.toArray := holds_of_block hgb (by simpa using r4)
    have hgl : gb < W.heap.size := (Array.getElem?_eq_some_iff.1 hgb).1
    have HS := Lib.hid (Tryz.slices_Sort_string gb 0 cap2 xs W hH hgl (by omega))
    have HG := Lib.hid (And.intro hbase (And.intro hgb (And.intro r1 (And.intro r2 r3))))
    clear hH hgl hbase hgb r1 r2 r3 r4
    go_wp2_with fail
    refine HS.out.mono ?_
    rintro e w' ⟨rfl, nn, os, hw'⟩
    have HW := Lib.hid hw'
    clear hw'
    go_wp2_with fail
    go_ret
    obtain ⟨g1, g2, g3, g4, g5⟩ := HG.out
    have hw := HW.out
    subst hw
    exact ⟨_, rfl, ownsRow_sorted (by simp) g1 g2 g3 g4 g5, HB.out.grown (grownBy_sorted _) HB.out.size (fun j hj => by cases hj; exact g1)⟩
theorem compact_own (base : Nat) (v : Value) (n : Nat) (zs : List TX) (hn : zs.length = n) (hl : n ≤ 1000000) (w : World) (h : w.ownsRow base 9 1 v n (zs.map encStr)) :
    Calls Tryz.prog 19 #[v] w fun e w' => ∃ A c, e = .returned (.slice A (Lib.compact zs).length c) ∧ (Lib.compact zs).length ≤ c ∧ c ≤ maxLen ∧ (∀ B, (∀ b, v.ownBlock = some b → b < B) → CS w' B A ((Lib.compact zs).map encStr)) ∧ w.grownBy w' v.ownBlock := by
  subst hn
  rcases h.2 with ⟨rfl, hz⟩ | ⟨gb, cap2, cur, rfl, hbase, hgb, r1, r2, r3, r4⟩
  · have hss : zs = [] := List.eq_nil_of_length_eq_zero hz
    subst hss
    refine (Tryz.slices_Compact_string_empty none 0 w).mono ?_
    rintro e w' ⟨rfl, rfl⟩
    exact ⟨none, 0, rfl, Nat.le_refl _, by decide, fun B _ => CS.nil _ _ _, ⟨rfl, rfl, rfl, Nat.le_refl _, fun _ _ _ => rfl⟩⟩
  · have hH : Holds encStr w gb 0 zs.toArray := holds_of_block hgb (by simpa using r4)
    refine (Tryz.slices_Compact_string gb 0 cap2 zs w hH (by omega) (by omega)).mono ?_
    rintro e w' ⟨rfl, q, rfl⟩
    have hcl := compact_len zs
    have hg := grownBy_sorted (w := w) (g := gb) (n := q) (os := #[]) (Lib.compact zs ++ List.replicate (zs.length - (Lib.compact zs).length) []).toArray
    rw [grow_empty] at hg
    have hH2 := holds_putRow encStr (Sort.ahead w q) gb 0 zs.toArray (Lib.compact zs ++ List.replicate (zs.length - (Lib.compact zs).length) []).toArray hH (by simp; omega)
    refine ⟨_, cap2, rfl, by omega, r2, fun B hB _ => ⟨gb, 0, rfl, hB gb rfl, fun k u hu => ?_⟩, hg⟩
    have hk : k < (Lib.compact zs).length := by have := (List.getElem?_eq_some_iff.1 hu).1; rwa [List.length_map] at this
    have h1 := (hH2 k (by simp; omega)).1
    rw [h1]
    rw [List.getElem?_map, List.getElem?_eq_getElem hk] at hu
    rw [← Option.some.inj hu, getElem!_pos _ k (by simp; omega)]
    simp [List.getElem_append_left hk]
theorem clone_any (s : ByteArray) (hs : s.size ≤ 100000000) (w : World) :
    Calls Tryz.prog 20 #[.string s] w fun e w' => e = .returned (.string s) ∧ Below w.heap.size w w' := by
  have HC := Lib.hid (Tryz.stringslite_Clone s w (by omega))
  go_enter Tryz.func20, Tryz.ntmps20
  go_wp2_with fail
  refine HC.out.mono ?_
  rintro e w2 ⟨rfl, hb⟩
  go_wp2_with fail
  go_ret
  exact ⟨rfl, hb⟩
/-- A dictionary in the making: its one cell, the words so far. -/
structure DV (w : World) (D : Nat) (W : List TX) (v : Value) : Prop where
  lt : D < w.heap.size
  c0 : w.cell? ⟨D, 0, none⟩ = some v
  fr : w.frozen? ⟨D, 0, none⟩ = false
  r0 : w.ownsRow (D + 1) 9 1 v W.length (W.map encStr)
theorem DV.below {w w' : World} {D : Nat} {W : List TX} {v : Value} (h : DV w D W v) (hb : Below w.heap.size w w') : DV w' D W v :=
  ⟨Nat.lt_of_lt_of_le h.lt hb.size, (hb.cell (p := ⟨D, 0, none⟩) h.lt).trans h.c0, (hb.frozen (p := ⟨D, 0, none⟩) h.lt).trans h.fr, own_below h.r0 hb⟩
theorem DV.last {w w4 : World} {D : Nat} {W : List TX} {vw : Value} (h : DV w D W vw) (o : Obj) (hg : (w.alloc o).grownBy w4 vw.ownBlock) :
    w4.cell? ⟨D, 0, none⟩ = some vw ∧ w4.frozen? ⟨D, 0, none⟩ = false ∧ ∀ (gg cap : Nat) (x : TX), w4.ownsRow (D + 1) 9 1 (.slice (some ⟨gg, 0, none⟩) (W.length + 1) cap) (W.length + 1) (W.map encStr ++ [.string ⟨x.toArray⟩]) →
      Below D w (w4.setCell ⟨D, 0, none⟩ (.slice (some ⟨gg, 0, none⟩) (W.length + 1) cap)) ∧ DV (w4.setCell ⟨D, 0, none⟩ (.slice (some ⟨gg, 0, none⟩) (W.length + 1) cap)) D (W ++ [x]) (.slice (some ⟨gg, 0, none⟩) (W.length + 1) cap) := by
  have hb : Below w.heap.size w (w.alloc o) := (Below.refl _ _).alloc (Nat.le_refl _) o
  have h2 := h.below hb
  obtain ⟨_, _, _, _, _, _, hob⟩ := own_form h2.r0
  have hne : vw.ownBlock ≠ some D := fun e => by have := (hob D e).1; omega
  have hk := hg.block D h2.lt (fun e => hne e.symm)
  have hf4 := (World.frozen?_of_block (w := w.alloc o) (a := ⟨D, 0, none⟩) hk).trans h2.fr
  have hc4 := (World.cell?_of_block (w := w.alloc o) (a := ⟨D, 0, none⟩) hk).trans h2.c0
  refine ⟨hc4, hf4, fun gg cap x hown => ⟨?_, ?_⟩⟩
  · exact (((hb.mono (Nat.le_of_lt h.lt)).grown hg (Nat.le_of_lt h2.lt) fun j hj => Nat.le_of_lt (Nat.lt_of_succ_le (hob j hj).1)).setCell (p := ⟨D, 0, none⟩) (Nat.le_refl _) _)
  · refine ⟨by simp; exact Nat.lt_of_lt_of_le h2.lt hg.size, World.cell?_setCell_same _ _ _ (by rw [hc4]), by rw [World.frozen?_setCell]; exact hf4, ?_⟩
    rw [List.length_append, List.length_singleton, List.map_append]
    exact ownsRow_setCell_below hown (a := ⟨D, 0, none⟩) (by show D < D + 1; omega) _
theorem DV.new (w : World) : DV (w.alloc (.cells #[.slice none 0 0] 34)) w.heap.size [] (.slice none 0 0) := by
  refine ⟨by simp, ?_, World.frozen?_alloc_new w _ _ 0, World.ownsRow_nil _ _ _ _⟩
  have z := new_cells w #[.slice none 0 0] 34 (0, 0) 0 _ rfl
  rwa [add_addr, Nat.zero_add] at z
theorem DV.nilkeep {w w' : World} {D : Nat} {row : Option Nat} (h : DV w D [] (.slice none 0 0)) (hg : w.grownBy w' row) (hne : row ≠ some D) : DV w' D [] (.slice none 0 0) := by
  have hk := hg.block D h.lt (fun e => hne e.symm)
  exact ⟨Nat.lt_of_lt_of_le h.lt hg.size, (World.cell?_of_block (w := w) (a := ⟨D, 0, none⟩) hk).trans h.c0, (World.frozen?_of_block (w := w) (a := ⟨D, 0, none⟩) hk).trans h.fr, World.ownsRow_nil _ _ _ _⟩
end Go.Proofs.YtjeccmmhmdgdgaaGreatDoor.Dc
