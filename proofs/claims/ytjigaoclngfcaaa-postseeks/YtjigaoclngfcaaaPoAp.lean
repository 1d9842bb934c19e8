/- append of integers onto a row of integers that the call owns. -/
import Derived.Test.YtjigaoclngfcaaaCs
import Derived.Test.YtjigaoclngfcaaaPoSpec
import Derived.Test.YtjigaoclngfcaaaMem2
import Derived.Laws.Cover1
namespace Go.Proofs.Ytjigaoclngfcaaa
open Go.RowKit
set_option maxRecDepth 100000

abbrev eI (n : Int) : Value := .int .i64 n
theorem infoInt : (Try.prog.info? 3).map (fun i => (i.zero, i.size, i.bytes)) = some (some (.int .i64 0), 1, 8) := by kernel_rfl
theorem eI_at (xs : List Int) (k : Nat) (h : k < xs.length) : (xs.map eI)[k]? = some (.int .i64 xs[k]) := by rw [List.getElem?_map, List.getElem?_eq_getElem h]; rfl
theorem run_appendI (w : World) (ty : TypeId) (base : Nat) (v : Value) (l : List Int) (hown : w.ownsRow base 3 1 v l.length (l.map eI)) (A : Option Addr) (c B : Nat) (m : List Int) (hm : CS w B A (m.map eI)) (hlen : l.length + m.length ≤ 1000000) (hbase : base ≤ w.heap.size) :
    ∃ v' w', (Builtin.append_ #[33, 33] ty #[v, .slice A m.length c]).run Try.prog w = .ok v' w' ∧ w'.ownsRow base 3 1 v' (l ++ m).length ((l ++ m).map eI) ∧ w.grownBy w' v.ownBlock := by
  obtain ⟨i0, hi0, hz0, hz1, hz2⟩ := info_parts infoInt
  have key : ∀ a : Addr, (∀ j u, (m.map eI)[j]? = some u → w.cell? (a.add j) = some u) → ∃ v' w', (Builtin.append_ #[33, 33] ty #[v, .slice (some a) m.length c]).run Try.prog w = .ok v' w' ∧ w'.ownsRow base 3 1 v' (l ++ m).length ((l ++ m).map eI) ∧ w.grownBy w' v.ownBlock := fun a ha => by
    obtain ⟨v', w', hr, h2, h3, _, h5⟩ := run_append_own_at (P := Try.prog) w base 33 ty 3 i0 _ 1 8 Try.underlying33 hi0 hz0 hz1 hz2 rfl (by omega) v l.length (l.map eI) hown a m.length c (m.map eI) (by rw [List.length_map]; omega) ha (fun u hu => by obtain ⟨x, _, rfl⟩ := List.mem_map.1 hu; rfl) (by unfold maxLen; omega) (by omega) hbase
    refine ⟨v', w', hr, ?_, h3⟩
    rw [List.length_append, List.map_append]
    exact h2
  rcases Nat.eq_zero_or_pos m.length with h0 | h0
  · obtain rfl := List.eq_nil_of_length_eq_zero h0
    cases A with
    | some a => exact key a (fun j u hu => by simp at hu)
    | none =>
      refine ⟨v, w, ?_, by simpa using hown, ⟨rfl, rfl, rfl, Nat.le_refl _, fun _ _ _ => rfl⟩⟩
      rcases hown.2 with ⟨rfl, _⟩ | ⟨g, cap, cur, rfl, _, _, hnc, _⟩
      · simp [Builtin.append_, run_underlying Try.underlying33, sizeOf, typeInfo, hi0, Builtin.lenOf, Builtin.firstCells]
      · simp [Builtin.append_, run_underlying Try.underlying33, sizeOf, typeInfo, hi0, Builtin.lenOf, Builtin.firstCells, hnc, storeCells]
  · obtain ⟨b, o, rfl, _, hc⟩ := hm (by rw [List.length_map]; exact h0)
    exact key ⟨b, o, none⟩ (fun j u hu => by rw [add_addr]; exact hc j u hu)
theorem wpList_appendI {ops : Array Oper} {rest : List Oper} {o : Oper} {a : Act} {Q : Exit → Act → World → Prop} (w : World) (hgd : o.guard = none) (s x : Operand)
    (ho : o.op = .call { callee := .builtin .append, args := #[s, x], argTypes := #[33, 33] })
    (base : Nat) (v : Value) (l : List Int) (nl : Nat) (hnl : l.length = nl) (hs : a.eval s = v) (hown : w.ownsRow base 3 1 v nl (l.map eI)) (A : Option Addr) (n c B : Nat) (m r : List Int) (nr : Nat) (hx : a.eval x = .slice A n c) (hn : n = m.length) (hm : CS w B A (m.map eI))
    (hr : l ++ m = r) (hnr : r.length = nr) (hlen : nr ≤ 1000000) (hbase : base ≤ w.heap.size)
    (h : ∀ v' w', w'.ownsRow base 3 1 v' nr (r.map eI) → w.grownBy w' v.ownBlock → wpList Try.prog ops Q rest (a.put o.dst v') w') : wpList Try.prog ops Q (o :: rest) a w := by
  subst hn hnl hr hnr
  refine wpList_plain hgd fun K hK => ?_
  obtain ⟨v', w', hr, h2, h3⟩ := run_appendI w o.type base v l hown A c B m hm (by rw [List.length_append] at hlen; exact hlen) hbase
  unfold Oper.wp execOp
  simp only [ho, resolve, invoke, builtin, Sem.run_bind, Sem.run_pure, Result.andThen_ok, List.map_toArray, List.map_cons, List.map_nil, hs, hx, hr]
  exact hK _ _ (h v' w' h2 h3)
end Go.Proofs.Ytjigaoclngfcaaa
