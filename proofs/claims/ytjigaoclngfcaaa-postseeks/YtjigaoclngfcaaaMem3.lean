/- A byte of a row of the call's own: read, and written. -/
import Derived.Test.YtjigaoclngfcaaaMem2
import Derived.Deep.RegionLaw
import Derived.Laws.MakeOwn
namespace Go.Proofs.Ytjigaoclngfcaaa
open Go.RowKit

theorem Own8.cell {w : World} {base : Nat} {t : TypeId} {g n c : Nat} {l : List UInt8} (h : Own8 w base t (.slice (some ⟨g, 0, none⟩) n c) l) (i : Nat) (hi : i < l.length) : w.cell? ⟨g, i, none⟩ = some (.int .u8 (at8 l i)) ∧ w.frozen? ⟨g, i, none⟩ = false := by
  rcases h.2 with ⟨h0, _⟩ | ⟨g', cap, cur, hv, hg, hh, hnc, hm, hs, ht⟩
  · cases h0
  · injection hv with h1 h2 h3
    injection h1 with h1
    injection h1 with h1 _ _
    subst h1
    have e := cells8_at l i hi
    rw [← ht, List.getElem?_take_of_lt (by omega)] at e
    exact ⟨by simp only [World.cell?, hh]; simpa using e, by simp [World.frozen?, hh]⟩
theorem cells8_set (l : List UInt8) (i : Nat) (b : UInt8) : cells8 (l.set i b) = (cells8 l).set i (.int .u8 (b.toNat : Int)) := by
  unfold cells8
  rw [List.map_set]
theorem Own8.set_ {w : World} {base : Nat} {t : TypeId} {g n c : Nat} {l : List UInt8} (h : Own8 w base t (.slice (some ⟨g, 0, none⟩) n c) l) (i : Nat) (_hi : i < l.length) (b : UInt8) : Own8 (w.setCell ⟨g, i, none⟩ (.int .u8 (b.toNat : Int))) base t (.slice (some ⟨g, 0, none⟩) n c) (l.set i b) := by
  rcases h.2 with ⟨h0, _⟩ | ⟨g', cap, cur, hv, hg, hh, hnc, hm, hs, ht⟩
  · cases h0
  · injection hv with h1 h2 h3
    injection h1 with h1
    injection h1 with h1 _ _
    subst h1
    subst h3
    refine ⟨by rw [cells8_length]; omega, .inr ⟨g, c, cur.setIfInBounds i (.int .u8 (b.toNat : Int)), by rw [h2, List.length_set], hg, by simp [World.setCell, Array.getElem?_modify, hh], by rw [List.length_set]; exact hnc, hm, by simpa using hs, ?_⟩⟩
    rw [cells8_set, ← ht, List.length_set, Nat.mul_one, Array.toList_setIfInBounds, ← List.take_set]

theorem step_append8 {ops : Array Oper} {o : Oper} {a : Act} {K : Act → World → Prop} {Q : Exit → Act → World → Prop} {E : Prop} (w : World) (hgd : o.guard = none) (s x : Operand)
    (ho : o.op = .call { callee := .builtin .append, args := #[s, x], argTypes := #[25, 25] })
    (base : Nat) (v : Value) (l : List UInt8) (hs : a.eval s = v) (hown : Own8 w base 5 v l) (A : Option Addr) (n c B : Nat) (m : List UInt8) (hx : a.eval x = .slice A n c) (hn : n = m.length) (hm : BS w B A m)
    (hlen : l.length + m.length ≤ 70368744177664) (hbase : base ≤ w.heap.size)
    (h : ∀ v' w', Own8 w' base 5 v' (l ++ m) → w.grownBy w' v.ownBlock → (v'.ownBlock = v.ownBlock ∨ v'.ownBlock = some w.heap.size) → K (a.put o.dst v') w') :
    if Region.wanted o (yielded ops a.tmps) = true then Oper.wp Try.prog o a w K Q else E := by
  subst hn
  have hw : Region.wanted o (yielded ops a.tmps) = true := by simp [Region.wanted, hgd]
  rw [if_pos hw]
  obtain ⟨v', w', hr, h2, h3, h4⟩ := run_append8 w o.type base v l hown A c B m hm hlen hbase
  unfold Oper.wp execOp
  simp only [ho, resolve, invoke, builtin, Sem.run_bind, Sem.run_pure, Result.andThen_ok, List.map_toArray, List.map_cons, List.map_nil, hs, hx, hr]
  exact h v' w' h2 h3 h4
/-- 'make([]byte, n)'. -/
theorem run_make8 (n : Nat) (hn : n ≤ 70368744177664) (W : World) : (Instr.makeSlice 25 (.int .i64 (n : Int)) (.int .i64 (n : Int))).run Try.prog W = .ok (.slice (some ⟨W.heap.size, 0, none⟩) n n) (W.alloc (.cells (madeCells #[.int .u8 0] n) 5)) := by
  obtain ⟨i0, hi0, hz0, hz1, hz2⟩ := info_parts u8_info
  have h := run_make (P := Try.prog) W 25 5 i0 _ Try.underlying25 hi0 hz0 .i64 .i64 (n : Int) (n : Int) (by omega) (by omega) (by rw [hz2]; omega) (by omega)
  rw [h, hz1]
  simp [Value.cells]
theorem made8 (W : World) (n : Nat) : BS (W.alloc (.cells (madeCells #[.int .u8 0] n) 5)) (W.heap.size + 1) (some ⟨W.heap.size, 0, none⟩) (List.replicate n 0) := fun _ => by
  refine ⟨W.heap.size, 0, rfl, by omega, fun k hk => ?_⟩
  rw [List.length_replicate] at hk
  rw [Nat.zero_add, World.cell?_alloc_mark]
  simp [madeCells, hk, at8, Nat.mod_one]
end Go.Proofs.Ytjigaoclngfcaaa
