/- append(b, text...) where b has no room. -/
import Derived.Test.YtiocdngkhdoigaaDoorAppStr
namespace Go.Proofs.YtiocdngkhdoigaaDoor
open Go.RowKit
set_option maxRecDepth 100000

/-- append(b, text...) where b has no room: whatever row b lies in, what comes is the call's own. -/
theorem run_append8g (w : World) (ty : TypeId) (base g cap : Nat) (l : List UInt8) (hc : ∀ j u, (cells8 l)[j]? = some u → w.cell? ((⟨g, 0, none⟩ : Addr).add j) = some u) (s : ByteArray) (hlen : l.length + s.size ≤ 70368744177664) (hbase : base ≤ w.heap.size) (hroom : cap < l.length + s.size) :
    ∃ v' w', (Builtin.append_ #[38, 9] ty #[.slice (some ⟨g, 0, none⟩) l.length cap, .string s]).run Tryd.prog w = .ok v' w' ∧ Own8 w' base 5 v' (l ++ s.data.toList) ∧ Below w.heap.size w w' := by
  obtain ⟨i, hi, hz, hsz, hby⟩ := info_parts u8_info
  have hsl : s.data.toList.length = s.size := by simp
  have hcl : (cells8 l ++ cells8 s.data.toList).length = (l.length + s.size) * 1 := by rw [List.length_append, cells8_length, cells8_length, hsl]; omega
  have hgoal : ∀ (w' : World) (v' : Value), w'.ownsRow base 5 1 v' (l.length + s.size) (cells8 l ++ cells8 s.data.toList) → Own8 w' base 5 v' (l ++ s.data.toList) := fun w' v' h => by
    unfold Own8
    rw [List.length_append, hsl, cells8_append]
    exact h
  have hold : (Builtin.firstCells i.size l.length (.slice (some ⟨g, 0, none⟩) l.length cap)).run Tryd.prog w.drew = .ok (cells8 l).toArray w.drew :=
    run_firstCells_some w.drew i.size l.length ⟨g, 0, none⟩ l.length cap (cells8 l) (by rw [cells8_length, hsz]; omega) hc
  have hsrc : Src Tryd.prog i.size 9 (.string s) s.size (byteCells s) w := by rw [hsz]; exact Src.ofString w Tryd.underlying9 s
  have hr := run_append_grow_src (P := Tryd.prog) w 38 9 ty 5 i _ Tryd.underlying38 hi hz (some ⟨g, 0, none⟩) l.length cap (cells8 l) hold (.string s) s.size (byteCells s) hsrc (by omega) (by omega) (growslice_fits (by omega) (by rw [hby]; omega))
  have hge := grownCap_ge w (l.length + s.size) cap 5
  have hcm2 : grownCap w (l.length + s.size) cap 5 ≤ maxLen := grownCap_le_maxLen w (l.length + s.size) cap 5 (by simp only [maxLen]; omega)
  refine ⟨_, _, hr, hgoal _ _ ⟨hcl, .inr ⟨w.heap.size, _, _, rfl, hbase, heap_alloc_new w.drew _, hge, hcm2, ?_, ?_⟩⟩, ⟨rfl, rfl, rfl, by simp, fun k hk => heap_alloc_old w.drew _ hk⟩⟩
  · simp only [Array.size_append, List.size_toArray, size_zeroCells, Value.cells, byteCells_eq, hcl]
    simp
    omega
  · rw [Array.toList_append, byteCells_eq, ← hcl]
    exact List.take_left
theorem wpList_append8g {ops : Array Oper} {rest : List Oper} {o : Oper} {a : Act} {Q : Exit → Act → World → Prop} (w : World) (hgd : o.guard = none) (s x : Operand)
    (ho : o.op = .call { callee := .builtin .append, args := #[s, x], argTypes := #[38, 9] })
    (base g cap : Nat) (l : List UInt8) (hs : a.eval s = .slice (some ⟨g, 0, none⟩) l.length cap) (hc : ∀ j u, (cells8 l)[j]? = some u → w.cell? ((⟨g, 0, none⟩ : Addr).add j) = some u) (t : ByteArray) (hx : a.eval x = .string t)
    (hlen : l.length + t.size ≤ 70368744177664) (hbase : base ≤ w.heap.size) (hroom : cap < l.length + t.size)
    (h : ∀ v' w', Own8 w' base 5 v' (l ++ t.data.toList) → Below w.heap.size w w' → wpList Tryd.prog ops Q rest (a.put o.dst v') w') : wpList Tryd.prog ops Q (o :: rest) a w := by
  refine wpList_plain hgd fun K hK => ?_
  obtain ⟨v', w', hr, h2, h3⟩ := run_append8g w o.type base g cap l hc t hlen hbase hroom
  unfold Oper.wp execOp
  simp only [ho, resolve, invoke, builtin, Sem.run_bind, Sem.run_pure, Result.andThen_ok, List.map_toArray, List.map_cons, List.map_nil, hs, hx, hr]
  exact hK _ _ (h v' w' h2 h3)
end Go.Proofs.YtiocdngkhdoigaaDoor
