/- append(own, text...): a text's bytes behind a row of the call's own that is not empty. -/
import Derived.Test.YtjigaoclngfcaaaMem2
import Derived.Deep.AppendSrc
namespace Go.Proofs.Ytjigaoclngfcaaa
open Go.RowKit
set_option maxRecDepth 100000

theorem byteCells_eq (s : ByteArray) : byteCells s = cells8 s.data.toList := rfl
theorem run_append8s (w : World) (ty : TypeId) (base : Nat) (v : Value) (l : List UInt8) (hown : Own8 w base 5 v l) (hp : 0 < l.length) (s : ByteArray) (hlen : l.length + s.size ≤ 70368744177664) (hbase : base ≤ w.heap.size) :
    ∃ v' w', (Builtin.append_ #[25, 9] ty #[v, .string s]).run Try.prog w = .ok v' w' ∧ Own8 w' base 5 v' (l ++ s.data.toList) ∧ w.grownBy w' v.ownBlock ∧ (v'.ownBlock = v.ownBlock ∨ v'.ownBlock = some w.heap.size) := by
  obtain ⟨i, hi, hz, hsz, hby⟩ := info_parts u8_info
  have hsl : s.data.toList.length = s.size := by simp
  have hcl : (cells8 l ++ cells8 s.data.toList).length = (l.length + s.size) * 1 := by rw [List.length_append, cells8_length, cells8_length, hsl]; omega
  have hgoal : ∀ (w' : World) (v' : Value), w'.ownsRow base 5 1 v' (l.length + s.size) (cells8 l ++ cells8 s.data.toList) → Own8 w' base 5 v' (l ++ s.data.toList) := fun w' v' h => by
    unfold Own8
    rw [List.length_append, hsl, cells8_append]
    exact h
  rcases hown.2 with ⟨_, h0⟩ | ⟨g, cap, cur, rfl, hbg, hg, hnc, hcm, hcs, htake⟩
  · omega
  · by_cases hroom : l.length + s.size ≤ cap
    · have hst := run_storeCells_at Try.prog g (l.length * i.size) 5 (byteCells s) 0 cur w hg (by rw [byteCells_length, hsz]; omega) (by rw [byteCells_eq]; exact cells8_one _)
      have hf := firstCells_string (P := Try.prog) s w
      simp only [Nat.add_zero] at hst
      refine ⟨.slice (some ⟨g, 0, none⟩) (l.length + s.size) cap, w.setRow g (cur.toList.take (l.length * i.size) ++ byteCells s ++ cur.toList.drop (l.length * i.size + (byteCells s).length)).toArray, ?_, hgoal _ (.slice (some ⟨g, 0, none⟩) (l.length + s.size) cap) ⟨hcl, .inr ⟨g, cap, _, rfl, hbg, setRow_heap w g cur _ 5 _ hg, hroom, hcm, ?_, ?_⟩⟩, ⟨rfl, rfl, rfl, by simp, fun k _ hk => setRow_other w g k _ (fun e => hk (by simp [Value.ownBlock, e]))⟩, .inl rfl⟩
      · simp [Builtin.append_, run_underlying Try.underlying25, run_underlying Try.underlying9, sizeOf, typeInfo, hi, hsz, Builtin.lenOf, hroom, hf, Addr.add_lit] at hst ⊢
        rw [hst]
        rfl
      · rw [hsz]
        simp only [List.size_toArray, List.length_append, List.length_take, List.length_drop, Array.length_toList, byteCells_length]
        omega
      · rw [hsz, htake, ← hcl]
        exact List.take_left
    · have hold : (Builtin.firstCells i.size l.length (.slice (some ⟨g, 0, none⟩) l.length cap)).run Try.prog w.drew = .ok (cells8 l).toArray w.drew :=
        run_firstCells_some w.drew i.size l.length ⟨g, 0, none⟩ l.length cap (cells8 l) (by rw [cells8_length, hsz]; omega) (by simpa using hown.cells (g := g) rfl)
      have hsrc : Src Try.prog i.size 9 (.string s) s.size (byteCells s) w := by rw [hsz]; exact Src.ofString w Try.underlying9 s
      have hr := run_append_grow_src (P := Try.prog) w 25 9 ty 5 i _ Try.underlying25 hi hz (some ⟨g, 0, none⟩) l.length cap (cells8 l) hold (.string s) s.size (byteCells s) hsrc (by omega) (by omega) (growslice_fits (by omega) (by rw [hby]; omega))
      have hge := grownCap_ge w (l.length + s.size) cap 5
      have hcm2 : grownCap w (l.length + s.size) cap 5 ≤ maxLen := grownCap_le_maxLen w (l.length + s.size) cap 5 (by simp only [maxLen]; omega)
      refine ⟨_, _, hr, hgoal _ _ ⟨hcl, .inr ⟨w.heap.size, _, _, rfl, hbase, heap_alloc_new w.drew _, hge, hcm2, ?_, ?_⟩⟩, ⟨rfl, rfl, rfl, by simp, fun k hk _ => heap_alloc_old w.drew _ hk⟩, .inr rfl⟩
      · simp only [Array.size_append, List.size_toArray, size_zeroCells, Value.cells, byteCells_eq, hcl]
        simp
        omega
      · rw [Array.toList_append, byteCells_eq, ← hcl]
        exact List.take_left
theorem wpList_append8s {ops : Array Oper} {rest : List Oper} {o : Oper} {a : Act} {Q : Exit → Act → World → Prop} (w : World) (hgd : o.guard = none) (s x : Operand)
    (ho : o.op = .call { callee := .builtin .append, args := #[s, x], argTypes := #[25, 9] })
    (base : Nat) (v : Value) (l : List UInt8) (hs : a.eval s = v) (hown : Own8 w base 5 v l) (hp : 0 < l.length) (t : ByteArray) (hx : a.eval x = .string t)
    (hlen : l.length + t.size ≤ 70368744177664) (hbase : base ≤ w.heap.size)
    (h : ∀ v' w', Own8 w' base 5 v' (l ++ t.data.toList) → w.grownBy w' v.ownBlock → (v'.ownBlock = v.ownBlock ∨ v'.ownBlock = some w.heap.size) → wpList Try.prog ops Q rest (a.put o.dst v') w') : wpList Try.prog ops Q (o :: rest) a w := by
  refine wpList_plain hgd fun K hK => ?_
  obtain ⟨v', w', hr, h2, h3, h4⟩ := run_append8s w o.type base v l hown hp t hlen hbase
  unfold Oper.wp execOp
  simp only [ho, resolve, invoke, builtin, Sem.run_bind, Sem.run_pure, Result.andThen_ok, List.map_toArray, List.map_cons, List.map_nil, hs, hx, hr]
  exact hK _ _ (h v' w' h2 h3 h4)
end Go.Proofs.Ytjigaoclngfcaaa
