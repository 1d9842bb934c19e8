/- append(own, text...): a text's bytes behind a row of the call's own, be it nil. -/
import Derived.Test.YtbehfhdkdekjfaaDoorAppStr
namespace Go.Proofs.YtbehfhdkdekjfaaDoor
open Go.RowKit
set_option maxRecDepth 100000

theorem run_append8t (w : World) (ty : TypeId) (base : Nat) (v : Value) (l : List UInt8) (hown : Own8 w base 5 v l) (s : ByteArray) (hlen : l.length + s.size ≤ 70368744177664) (hbase : base ≤ w.heap.size) :
    ∃ v' w', (Builtin.append_ #[37, 9] ty #[v, .string s]).run Tryd.prog w = .ok v' w' ∧ Own8 w' base 5 v' (l ++ s.data.toList) ∧ w.grownBy w' v.ownBlock ∧ (v'.ownBlock = v.ownBlock ∨ v'.ownBlock = some w.heap.size) := by
  obtain ⟨i, hi, hz, hsz, hby⟩ := info_parts u8_info
  have hsl : s.data.toList.length = s.size := by simp
  have hcl : (cells8 l ++ cells8 s.data.toList).length = (l.length + s.size) * 1 := by rw [List.length_append, cells8_length, cells8_length, hsl]; omega
  have hgoal : ∀ (w' : World) (v' : Value), w'.ownsRow base 5 1 v' (l.length + s.size) (cells8 l ++ cells8 s.data.toList) → Own8 w' base 5 v' (l ++ s.data.toList) := fun w' v' h => by
    unfold Own8
    rw [List.length_append, hsl, cells8_append]
    exact h
  rcases hown.2 with ⟨rfl, h0⟩ | ⟨g, cap, cur, rfl, hbg, hg, hnc, hcm, hcs, htake⟩
  · have hl0 : l = [] := List.eq_nil_of_length_eq_zero h0
    subst hl0
    by_cases hs0 : s.size = 0
    · refine ⟨.slice none 0 0, w, ?_, hgoal _ _ ⟨hcl, .inl ⟨rfl, by simp [hs0]⟩⟩, ⟨rfl, rfl, rfl, Nat.le_refl _, fun _ _ _ => rfl⟩, .inl rfl⟩
      have hf := firstCells_string (P := Tryd.prog) s w
      have hb0 : byteCells s = [] := List.eq_nil_of_length_eq_zero (by rw [byteCells_length]; exact hs0)
      rw [hs0, hb0] at hf
      simp [Builtin.append_, run_underlying Tryd.underlying37, run_underlying Tryd.underlying9, sizeOf, typeInfo, hi, hsz, Builtin.lenOf, hs0, hf]
    · have hold : (Builtin.firstCells i.size 0 (.slice none 0 0)).run Tryd.prog w.drew = .ok (([] : List Value)).toArray w.drew := by simp [Builtin.firstCells]
      have hsrc : Src Tryd.prog i.size 9 (.string s) s.size (byteCells s) w := by rw [hsz]; exact Src.ofString w Tryd.underlying9 s
      have hlen' : s.size ≤ 70368744177664 := by simpa using hlen
      have hr := run_append_grow_src (P := Tryd.prog) w 37 9 ty 5 i _ Tryd.underlying37 hi hz none 0 0 [] hold (.string s) s.size (byteCells s) hsrc (by omega) (by omega) (growslice_fits (by omega) (by rw [hby]; omega))
      have hge := grownCap_ge w (0 + s.size) 0 5
      have hcm2 : grownCap w (0 + s.size) 0 5 ≤ maxLen := grownCap_le_maxLen w (0 + s.size) 0 5 (by simp only [maxLen]; omega)
      refine ⟨_, _, hr, hgoal _ _ ⟨hcl, .inr ⟨w.heap.size, _, _, rfl, hbase, heap_alloc_new w.drew _, by simpa using hge, hcm2, ?_, ?_⟩⟩, ⟨rfl, rfl, rfl, by simp, fun k hk _ => heap_alloc_old w.drew _ hk⟩, .inr rfl⟩
      · have hbl := byteCells_length s
        simp only [Array.size_append, List.size_toArray, size_zeroCells, Value.cells, List.nil_append, hbl]
        simp only [Nat.zero_add] at hge ⊢
        simp
        omega
      · have hbl := byteCells_length s
        rw [Array.toList_append, byteCells_eq]
        have e : (([] : List UInt8).length + s.size) * 1 = (([] : List Value) ++ cells8 s.data.toList).length := by rw [List.nil_append, cells8_length, hsl]; simp
        rw [e]
        exact List.take_left
  · rcases Nat.eq_zero_or_pos l.length with h0 | hp
    · have hl0 : l = [] := List.eq_nil_of_length_eq_zero h0
      subst hl0
      by_cases hroom : s.size ≤ cap
      · have hst := run_storeCells_at Tryd.prog g (0 * i.size) 5 (byteCells s) 0 cur w hg (by rw [byteCells_length, hsz]; omega) (by rw [byteCells_eq]; exact cells8_one _)
        have hf := firstCells_string (P := Tryd.prog) s w
        simp only [Nat.add_zero, Nat.zero_mul] at hst
        refine ⟨.slice (some ⟨g, 0, none⟩) s.size cap, w.setRow g (byteCells s ++ cur.toList.drop (byteCells s).length).toArray, ?_, hgoal _ (.slice (some ⟨g, 0, none⟩) s.size cap) ⟨hcl, .inr ⟨g, cap, _, by simp, hbg, setRow_heap w g cur _ 5 _ hg, by simpa using hroom, hcm, ?_, ?_⟩⟩, ⟨rfl, rfl, rfl, by simp, fun k _ hk => setRow_other w g k _ (fun e => hk (by simp [Value.ownBlock, e]))⟩, .inl rfl⟩
        · simp [Builtin.append_, run_underlying Tryd.underlying37, run_underlying Tryd.underlying9, sizeOf, typeInfo, hi, hsz, Builtin.lenOf, hroom, hf, Addr.add_lit] at hst ⊢
          rw [hst]
          rfl
        · simp only [List.size_toArray, List.length_append, List.length_drop, Array.length_toList, byteCells_length]
          omega
        · have e : (([] : List UInt8).length + s.size) * 1 = (byteCells s).length := by rw [byteCells_length]; simp
          rw [e]
          exact List.take_left
      · have hold : (Builtin.firstCells i.size 0 (.slice (some ⟨g, 0, none⟩) 0 cap)).run Tryd.prog w.drew = .ok (cells8 []).toArray w.drew :=
          run_firstCells_some w.drew i.size 0 ⟨g, 0, none⟩ 0 cap (cells8 []) (by simp [cells8]) (by intro j u h; simp [cells8] at h)
        have hsrc : Src Tryd.prog i.size 9 (.string s) s.size (byteCells s) w := by rw [hsz]; exact Src.ofString w Tryd.underlying9 s
        have hlen' : s.size ≤ 70368744177664 := by simpa using hlen
        have hr := run_append_grow_src (P := Tryd.prog) w 37 9 ty 5 i _ Tryd.underlying37 hi hz (some ⟨g, 0, none⟩) 0 cap (cells8 []) hold (.string s) s.size (byteCells s) hsrc (by omega) (by omega) (growslice_fits (by omega) (by rw [hby]; omega))
        have hge := grownCap_ge w (0 + s.size) cap 5
        have hcm2 : grownCap w (0 + s.size) cap 5 ≤ maxLen := grownCap_le_maxLen w (0 + s.size) cap 5 (by simp only [maxLen]; omega)
        refine ⟨_, _, hr, hgoal _ _ ⟨hcl, .inr ⟨w.heap.size, _, _, rfl, hbase, heap_alloc_new w.drew _, by simpa using hge, hcm2, ?_, ?_⟩⟩, ⟨rfl, rfl, rfl, by simp, fun k hk _ => heap_alloc_old w.drew _ hk⟩, .inr rfl⟩
        · have hbl := byteCells_length s
          simp only [Array.size_append, List.size_toArray, size_zeroCells, Value.cells, byteCells_eq, hcl]
          simp [cells8] at *
          omega
        · rw [Array.toList_append, byteCells_eq, ← hcl]
          exact List.take_left
    · exact run_append8s w ty base _ l hown hp s hlen hbase
theorem wpList_append8t {ops : Array Oper} {rest : List Oper} {o : Oper} {a : Act} {Q : Exit → Act → World → Prop} (w : World) (hgd : o.guard = none) (s x : Operand)
    (ho : o.op = .call { callee := .builtin .append, args := #[s, x], argTypes := #[37, 9] })
    (base : Nat) (v : Value) (l : List UInt8) (hs : a.eval s = v) (hown : Own8 w base 5 v l) (t : ByteArray) (hx : a.eval x = .string t)
    (hlen : l.length + t.size ≤ 70368744177664) (hbase : base ≤ w.heap.size)
    (h : ∀ v' w', Own8 w' base 5 v' (l ++ t.data.toList) → w.grownBy w' v.ownBlock → (v'.ownBlock = v.ownBlock ∨ v'.ownBlock = some w.heap.size) → wpList Tryd.prog ops Q rest (a.put o.dst v') w') : wpList Tryd.prog ops Q (o :: rest) a w := by
  refine wpList_plain hgd fun K hK => ?_
  obtain ⟨v', w', hr, h2, h3, h4⟩ := run_append8t w o.type base v l hown t hlen hbase
  unfold Oper.wp execOp
  simp only [ho, resolve, invoke, builtin, Sem.run_bind, Sem.run_pure, Result.andThen_ok, List.map_toArray, List.map_cons, List.map_nil, hs, hx, hr]
  exact hK _ _ (h v' w' h2 h3 h4)
end Go.Proofs.YtbehfhdkdekjfaaDoor
