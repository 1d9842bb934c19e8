/- Tools over this program: append of bytes onto a row of the call's own, whatever the source; cuts of byte slices; 'string(b)'. -/
import Derived.Test.YtjeccmmhmdgdgaaGreatDoorChecked
import Derived.Test.YtjeccmmhmdgdgaaGreatDoorMem
import Derived.Maps.AppendAt
import Derived.OwnWalk
import Derived.WalkKit
import Derived.Laws.IdiomStrings
namespace Go.Proofs.YtjeccmmhmdgdgaaGreatDoor
open Go.RowKit
set_option maxRecDepth 100000

theorem u8_info : (Tryz.prog.info? 5).map (fun i => (i.zero, i.size, i.bytes)) = some (some (.int .u8 0), 1, 1) := by kernel_rfl

theorem addr_add (b o j : Nat) : (⟨b, o, none⟩ : Addr).add j = ⟨b, o + j, none⟩ := by unfold Addr.add; split <;> simp_all

/-- 'string(b)'. -/
theorem BS.conv {w : World} {B : Nat} {A : Option Addr} {l : List UInt8} (h : BS w B A l) (n c : Nat) (hn : n = l.length) : (convert 78 9 (.slice A n c)).run Tryz.prog w = .ok (.string ⟨l.toArray⟩) w := by
  subst hn
  rcases Nat.eq_zero_or_pos l.length with h0 | h0
  · obtain rfl := List.eq_nil_of_length_eq_zero h0
    rw [run_convert_bytes_string w 78 9 5 A _ c Tryz.underlying78 Tryz.underlying5 Tryz.underlying9]
    cases A with
    | none => simp [Conv.bytesToString]; rfl
    | some a => exact run_bytesToString w a 0 c [] (by simp [loadCells, loadCellsFrom])
  · obtain ⟨b, o, rfl, _, hc⟩ := h h0
    exact run_convert_bytes_back w 78 9 5 ⟨b, o, none⟩ c l Tryz.underlying78 Tryz.underlying5 Tryz.underlying9 (fun j hj => by
      rw [addr_add, hc j hj, at8_eq l j hj])

/-- append(own, bytes...): the source may be nil, empty or not. -/
theorem run_append8 (w : World) (ty : TypeId) (base : Nat) (v : Value) (l : List UInt8) (hown : Own8 w base 5 v l) (A : Option Addr) (c B : Nat) (m : List UInt8) (hm : BS w B A m) (hlen : l.length + m.length ≤ 70368744177664) (hbase : base ≤ w.heap.size) :
    ∃ v' w', (Builtin.append_ #[78, 78] ty #[v, .slice A m.length c]).run Tryz.prog w = .ok v' w' ∧ Own8 w' base 5 v' (l ++ m) ∧ w.grownBy w' v.ownBlock ∧ (v'.ownBlock = v.ownBlock ∨ v'.ownBlock = some w.heap.size) := by
  obtain ⟨i0, hi0, hz0, hz1, hz2⟩ := info_parts u8_info
  have key : ∀ a : Addr, (∀ j u, (cells8 m)[j]? = some u → w.cell? (a.add j) = some u) → ∃ v' w', (Builtin.append_ #[78, 78] ty #[v, .slice (some a) m.length c]).run Tryz.prog w = .ok v' w' ∧ Own8 w' base 5 v' (l ++ m) ∧ w.grownBy w' v.ownBlock ∧ (v'.ownBlock = v.ownBlock ∨ v'.ownBlock = some w.heap.size) := fun a ha => by
    obtain ⟨v', w', hr, h2, h3, _, h5⟩ := run_append_own_at (P := Tryz.prog) w base 78 ty 5 i0 _ 1 1 Tryz.underlying78 hi0 hz0 hz1 hz2 rfl (by omega) v l.length (cells8 l) hown a m.length c (cells8 m) (by rw [cells8_length]; omega) ha (cells8_one m) (by simp only [maxLen]; omega) (by omega) hbase
    refine ⟨v', w', hr, ?_, h3, h5⟩
    unfold Own8
    rw [List.length_append, cells8_append]
    exact h2
  rcases Nat.eq_zero_or_pos m.length with h0 | h0
  · obtain rfl := List.eq_nil_of_length_eq_zero h0
    cases A with
    | some a => exact key a (fun j u hu => by simp [cells8] at hu)
    | none =>
      refine ⟨v, w, ?_, by simpa using hown, ⟨rfl, rfl, rfl, Nat.le_refl _, fun _ _ _ => rfl⟩, .inl rfl⟩
      rcases hown.2 with ⟨rfl, _⟩ | ⟨g, cap, cur, rfl, _, _, hnc, _⟩
      · simp [Builtin.append_, run_underlying Tryz.underlying78, sizeOf, typeInfo, hi0, Builtin.lenOf, Builtin.firstCells]
      · simp [Builtin.append_, run_underlying Tryz.underlying78, sizeOf, typeInfo, hi0, Builtin.lenOf, Builtin.firstCells, hnc, storeCells]
  · obtain ⟨b, o, rfl, _, hc⟩ := hm h0
    refine key ⟨b, o, none⟩ (fun j u hu => ?_)
    have hj : j < m.length := by
      have := (List.getElem?_eq_some_iff.1 hu).1
      rwa [cells8_length] at this
    rw [addr_add, hc j hj]
    rw [cells8_at m j hj] at hu
    exact hu

theorem wpList_append8 {ops : Array Oper} {rest : List Oper} {o : Oper} {a : Act} {Q : Exit → Act → World → Prop} (w : World) (hgd : o.guard = none) (s x : Operand)
    (ho : o.op = .call { callee := .builtin .append, args := #[s, x], argTypes := #[78, 78] })
    (base : Nat) (v : Value) (l : List UInt8) (hs : a.eval s = v) (hown : Own8 w base 5 v l) (A : Option Addr) (n c B : Nat) (m : List UInt8) (hx : a.eval x = .slice A n c) (hn : n = m.length) (hm : BS w B A m)
    (hlen : l.length + m.length ≤ 70368744177664) (hbase : base ≤ w.heap.size)
    (h : ∀ v' w', Own8 w' base 5 v' (l ++ m) → w.grownBy w' v.ownBlock → (v'.ownBlock = v.ownBlock ∨ v'.ownBlock = some w.heap.size) → wpList Tryz.prog ops Q rest (a.put o.dst v') w') : wpList Tryz.prog ops Q (o :: rest) a w := by
  subst hn
  refine wpList_plain hgd fun K hK => ?_
  obtain ⟨v', w', hr, h2, h3, h4⟩ := run_append8 w o.type base v l hown A c B m hm hlen hbase
  unfold Oper.wp execOp
  simp only [ho, resolve, invoke, builtin, Sem.run_bind, Sem.run_pure, Result.andThen_ok, List.map_toArray, List.map_cons, List.map_nil, hs, hx, hr]
  exact hK _ _ (h v' w' h2 h3 h4)

/-- 'b[k:]'. -/
theorem BS.from_ {w : World} {B : Nat} {A : Option Addr} {l : List UInt8} (h : BS w B A l) (n c k : Nat) (hn : n = l.length) (hk : k ≤ n) (hc : n ≤ c) :
    ∃ A', (∀ W, (Instr.slice 78 (.slice A n c) (some (.int .i64 (k : Int))) none none).run Tryz.prog W = .ok (.slice A' (n - k) (c - k)) W) ∧ BS w B A' (l.drop k) := by
  have hu : Tryz.prog.underlying 78 = some (.slice (Tryz.prog.elem 78)) := by kernel_rfl
  have he : Tryz.prog.elem 78 = 5 := by kernel_rfl
  refine ⟨if c = k then A else A.map (·.add (k * 1)), fun W => ?_, fun hp => ?_⟩
  · have hz : (sizeOf 5).run Tryz.prog W = .ok 1 W := by kernel_rfl
    rw [run_slice_l W 78 A n c hu .i64 (k : Int) (by omega) (by omega), he, hz]
    simp only [Result.andThen, sliced, Int.toNat_natCast]
  · rw [List.length_drop] at hp
    obtain ⟨b, o, rfl, hb, hcell⟩ := h (by omega)
    rw [if_neg (by omega)]
    refine ⟨b, o + k, by simp [addr_add], hb, fun j hj => ?_⟩
    rw [List.length_drop] at hj
    rw [Nat.add_assoc, hcell (k + j) (by omega)]
    simp [at8, List.getElem?_drop]
/-- 'b[:k]'. -/
theorem BS.to_ {w : World} {B : Nat} {A : Option Addr} {l : List UInt8} (h : BS w B A l) (n c k : Nat) (hn : n = l.length) (hk : k ≤ n) (hc : n ≤ c) :
    (∀ W, (Instr.slice 78 (.slice A n c) none (some (.int .i64 (k : Int))) none).run Tryz.prog W = .ok (.slice A k c) W) ∧ BS w B A (l.take k) := by
  have hu : Tryz.prog.underlying 78 = some (.slice (Tryz.prog.elem 78)) := by kernel_rfl
  have he : Tryz.prog.elem 78 = 5 := by kernel_rfl
  refine ⟨fun W => ?_, fun hp => ?_⟩
  · have hz : (sizeOf 5).run Tryz.prog W = .ok 1 W := by kernel_rfl
    rw [run_slice_h W 78 A n c hu .i64 (k : Int) (by omega) (by omega), he, hz]
    cases A with
    | none => simp [Result.andThen, sliced]
    | some a => simp [Result.andThen, sliced, Addr.add]
  · rw [List.length_take] at hp
    obtain ⟨b, o, rfl, hb, hcell⟩ := h (by omega)
    refine ⟨b, o, rfl, hb, fun j hj => ?_⟩
    rw [List.length_take] at hj
    rw [hcell j (by omega)]
    simp [at8, show j < k by omega]
theorem below_of_grown {w w' : World} {row : Option Nat} (h : w.grownBy w' row) (hr : ∀ k, row = some k → w.heap.size ≤ k) : Below w.heap.size w w' := (Below.refl _ _).grown h (Nat.le_refl _) hr
/-- The row of an empty literal. -/
theorem Own8.lit (w : World) (fr : Nat × Nat) (hfr : fr = (0, 0)) : Own8 (w.alloc (.cells #[] 5 fr)) w.heap.size 5 (.slice (some ⟨w.heap.size, 0, none⟩) 0 0) [] := by
  subst hfr
  exact ⟨rfl, .inr ⟨w.heap.size, 0, #[], rfl, Nat.le_refl _, heap_alloc_new w _, Nat.le_refl _, by decide, rfl, rfl⟩⟩
/-- What is written is the call's own row: all that is older stands. -/
theorem Own8.grow {w0 w w' : World} {base B : Nat} {t : TypeId} {v : Value} {l : List UInt8} (h : Own8 w base t v l) (hB : B ≤ base) (hbel : Below B w0 w) (hbase : base ≤ w.heap.size) (hg : w.grownBy w' v.ownBlock) : Below B w0 w' :=
  hbel.grown hg (Nat.le_trans hB hbase) fun k hk => by
    obtain ⟨_, _, _, _, _, _, hb⟩ := h.form
    exact Nat.le_trans hB (hb k hk).1
theorem Own8.le {w : World} {base base' : Nat} {t : TypeId} {v : Value} {l : List UInt8} (h : Own8 w base t v l) (hb : base' ≤ base) : Own8 w base' t v l :=
  ⟨h.1, h.2.elim .inl fun ⟨g, cap, cur, hv, hg, r⟩ => .inr ⟨g, cap, cur, hv, Nat.le_trans hb hg, r⟩⟩
end Go.Proofs.YtjeccmmhmdgdgaaGreatDoor
