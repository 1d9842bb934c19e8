/- What the rows hand the walks: matches; integers. -/
import Derived.Test.YtafbjadlklcicaaRows
import Derived.Test.YtafbjadlklcicaaMaMem
import Derived.ProofKit
import Derived.OpenShut
import Derived.Below
import Derived.ChangeArms
import Derived.DataReads
import Derived.ChangeSlices
namespace Go.Proofs.Ytafbjadlklcicaa
open Go.ChangeShapes Go.WideShapes Go.ChangeAt Go.RowKit
set_option maxRecDepth 100000

/-- A slice of integers that came in. -/
def IsRow (k : IntKind) (w : World) (a : Option Addr) (len cap : Nat) (zs : List Int) : Prop :=
  (a = none ∧ len = 0 ∧ cap = 0 ∧ zs = []) ∨
  ∃ x, a = some x ∧ len ≤ cap ∧ cap ≤ maxLen ∧ zs.length = cap ∧ (∀ i, i < zs.length → w.cell? (x.add i) = some (.int k (zs.getD i 0))) ∧ ∀ n ∈ zs, (Lit.int k n).wf = true
theorem IsRow.ci {w : World} {a : Option Addr} {len cap : Nat} {zs : List Int} (h : IsRow .i64 w a len cap zs) : ∃ l : List Int, len = l.length ∧ len ≤ cap ∧ cap ≤ maxLen ∧ CS w w.heap.size a (l.map fun x => Value.int .i64 x) ∧ ∀ x ∈ l, (Lit.int .i64 x).wf = true := by
  rcases h with ⟨rfl, rfl, rfl, rfl⟩ | ⟨x, rfl, hl, hm, hz, hc, hw⟩
  · exact ⟨[], rfl, Nat.le_refl _, by decide, CS.nil _ _ _, fun x hx => by cases hx⟩
  · have hlen : (zs.take len).length = len := by rw [List.length_take]; omega
    refine ⟨zs.take len, hlen.symm, hl, hm, fun hp => ?_, fun x hx => hw x (List.mem_of_mem_take hx)⟩
    rw [List.length_map, hlen] at hp
    obtain ⟨b, o, s⟩ := x
    have h0 := hc 0 (by omega)
    have hs : s = none := by simpa [Addr.add] using World.cell?_spot h0
    subst hs
    refine ⟨b, o, rfl, World.block_lt_of_cell? w _ h0, fun k u hu => ?_⟩
    have hk : k < len := by have := (List.getElem?_eq_some_iff.1 hu).1; rw [List.length_map, hlen] at this; exact this
    have e := hc k (by omega)
    rw [add_addr] at e
    rw [e]
    rw [List.getElem?_map, List.getElem?_take_of_lt hk, List.getElem?_eq_getElem (by omega)] at hu
    rw [List.getD_eq_getElem?_getD, List.getElem?_eq_getElem (by omega)]
    exact hu
theorem spCs_cells {W : World} {b o : Nat} (l : List Sp) (h : ∀ i (hi : i < l.length), W.cell? ⟨b, o + i * 4 + 0, none⟩ = some (.int .i64 l[i].1) ∧ W.cell? ⟨b, o + i * 4 + 1, none⟩ = some (.int .i64 l[i].2.1) ∧ W.cell? ⟨b, o + i * 4 + 2, none⟩ = some (.int .i64 l[i].2.2.1) ∧ W.cell? ⟨b, o + i * 4 + 3, none⟩ = some (.int .i64 l[i].2.2.2)) :
    ∀ k u, (spCs l)[k]? = some u → W.cell? ⟨b, o + k, none⟩ = some u := fun k u hu => by
  have hk := (List.getElem?_eq_some_iff.1 hu).1
  rw [spCs_len] at hk
  have hi : k / 4 < l.length := by omega
  obtain ⟨a0, a1, a2, a3⟩ := h (k / 4) hi
  obtain ⟨b0, b1, b2, b3⟩ := spCs_at l (k / 4) hi
  rcases (by omega : k = k / 4 * 4 ∨ k = k / 4 * 4 + 1 ∨ k = k / 4 * 4 + 2 ∨ k = k / 4 * 4 + 3) with e | e | e | e
  · rw [← e] at b0; rw [show o + k = o + k / 4 * 4 + 0 by omega, a0, ← b0, hu]
  · rw [← e] at b1; rw [show o + k = o + k / 4 * 4 + 1 by omega, a1, ← b1, hu]
  · rw [← e] at b2; rw [show o + k = o + k / 4 * 4 + 2 by omega, a2, ← b2, hu]
  · rw [← e] at b3; rw [show o + k = o + k / 4 * 4 + 3 by omega, a3, ← b3, hu]
theorem zC_cells {W : World} {b o : Nat} (zs : List (Value × Value)) (h : ∀ i (hi : i < zs.length), W.cell? ⟨b, o + i * 2 + 0, none⟩ = some zs[i].1 ∧ W.cell? ⟨b, o + i * 2 + 1, none⟩ = some zs[i].2) :
    ∀ k u, (zC zs)[k]? = some u → W.cell? ⟨b, o + k, none⟩ = some u := fun k u hu => by
  have hk := (List.getElem?_eq_some_iff.1 hu).1
  rw [zC_len] at hk
  have hi : k / 2 < zs.length := by omega
  obtain ⟨a0, a1⟩ := h (k / 2) hi
  obtain ⟨b0, b1⟩ := zC_at zs (k / 2) hi
  rcases (by omega : k = k / 2 * 2 ∨ k = k / 2 * 2 + 1) with e | e
  · rw [← e] at b0; rw [show o + k = o + k / 2 * 2 + 0 by omega, a0, ← b0, hu]
  · rw [← e] at b1; rw [show o + k = o + k / 2 * 2 + 1 by omega, a1, ← b1, hu]
theorem one_ofN {cs : List Value} {i : Nat} {v : Value} (h : (cs.drop i).take 1 = [v]) : cs[i]? = some v := by
  have := congrArg (·[0]?) h
  simpa [List.getElem?_take, List.getElem?_drop] using this
theorem addr_addN (b o i j : Nat) : ((⟨b, o, none⟩ : Addr).add i).add j = ⟨b, o + i + j, none⟩ := by rw [add_addr, add_addr]
theorem span_fields : ∃ f0 f1 f2 f3, Try.prog.underlying 26 = some (.struct #[f0, f1, f2, f3]) ∧ f0.type = 3 ∧ f1.type = 3 ∧ f2.type = 3 ∧ f3.type = 3 ∧ f0.offset = 0 ∧ f1.offset = 1 ∧ f2.offset = 2 ∧ f3.offset = 3 :=
  ⟨_, _, _, _, Try.underlying26, rfl, rfl, rfl, rfl, rfl, rfl, rfl, rfl⟩
theorem match_fields : ∃ f0 f1, Try.prog.underlying 60 = some (.struct #[f0, f1]) ∧ f0.type = 28 ∧ f1.type = 28 ∧ f0.offset = 0 ∧ f1.offset = 1 :=
  ⟨_, _, Try.underlying60, rfl, rfl, rfl, rfl⟩
theorem cellsSpan : Try.prog.cellsOf 26 = 4 := by kernel_rfl
theorem cellsMatch : Try.prog.cellsOf 60 = 2 := by kernel_rfl
theorem cellsIntN : Try.prog.cellsOf 3 = 1 := by kernel_rfl
theorem cellsSpans : Try.prog.cellsOf 28 = 1 := by kernel_rfl
theorem span_read {H : Type} {enc : TypeId × Value → H} {W : World} {fuel : Nat} {cs : List Value} {x : DataW H × List MemPlace}
    (h : DataW.trod enc Try.prog W 0 (fun _ => true) true fuel 26 cs = some x) : ∃ p : Sp, cs[0]? = some (.int .i64 p.1) ∧ cs[1]? = some (.int .i64 p.2.1) ∧ cs[2]? = some (.int .i64 p.2.2.1) ∧ cs[3]? = some (.int .i64 p.2.2.2) := by
  obtain ⟨f0, f1, f2, f3, hu, t0, t1, t2, t3, o0, o1, o2, o3⟩ := span_fields
  obtain ⟨xs, n, rfl, _, _, hxl, hall⟩ := DataW.trod_struct hu h
  have hl3 : xs.length = 4 := hxl
  obtain ⟨x0, h0⟩ : ∃ y, xs[0]? = some y := ⟨xs[0]'(by omega), List.getElem?_eq_getElem (by omega)⟩
  obtain ⟨x1, h1⟩ : ∃ y, xs[1]? = some y := ⟨xs[1]'(by omega), List.getElem?_eq_getElem (by omega)⟩
  obtain ⟨x2, h2⟩ : ∃ y, xs[2]? = some y := ⟨xs[2]'(by omega), List.getElem?_eq_getElem (by omega)⟩
  obtain ⟨x3, h3⟩ : ∃ y, xs[3]? = some y := ⟨xs[3]'(by omega), List.getElem?_eq_getElem (by omega)⟩
  have e0 := hall 0 f0 rfl
  have e1 := hall 1 f1 rfl
  have e2 := hall 2 f2 rfl
  have e3 := hall 3 f3 rfl
  rw [t0, o0, cellsIntN, h0] at e0
  rw [t1, o1, cellsIntN, h1] at e1
  rw [t2, o2, cellsIntN, h2] at e2
  rw [t3, o3, cellsIntN, h3] at e3
  obtain ⟨m0, hm0, _, _⟩ := DataW.trod_int Try.underlying3 e0
  obtain ⟨m1, hm1, _, _⟩ := DataW.trod_int Try.underlying3 e1
  obtain ⟨m2, hm2, _, _⟩ := DataW.trod_int Try.underlying3 e2
  obtain ⟨m3, hm3, _, _⟩ := DataW.trod_int Try.underlying3 e3
  exact ⟨(m0, m1, m2, m3), one_ofN hm0, one_ofN hm1, one_ofN hm2, one_ofN hm3⟩
theorem open_sp {H : Type} {enc : TypeId × Value → H} {W : World} {cs : List Value} {fuel : Nat} {x : DataW H × List MemPlace}
    (hf : DataW.trod enc Try.prog W 0 (fun _ => true) true fuel 28 cs = some x) : ∃ v l, cs = [v] ∧ SV W W.heap.size v l := by
  rcases DataW.trod_slice Try.underlying28 hf with ⟨hcs, _⟩ | ⟨y, l, c, elems, rest, n, _, hcs, _, _, hl, hm, hlen, hel, _, _⟩
  · exact ⟨_, [], hcs, SV.nil _ _⟩
  · have each : ∀ i, i < l → ∃ p : Sp, W.cell? ((y.add (i * 4)).add 0) = some (.int .i64 p.1) ∧ W.cell? ((y.add (i * 4)).add 1) = some (.int .i64 p.2.1) ∧ W.cell? ((y.add (i * 4)).add 2) = some (.int .i64 p.2.2.1) ∧ W.cell? ((y.add (i * 4)).add 3) = some (.int .i64 p.2.2.2) := fun i hi => by
      have h1 := hel i hi
      rw [cellsSpan] at h1
      obtain ⟨q, hq⟩ : ∃ q, elems[i]? = some q := ⟨elems[i]'(by omega), List.getElem?_eq_getElem (by omega)⟩
      rw [hq] at h1
      obtain ⟨cs, hcc, ht⟩ := Option.bind_eq_some_iff.1 h1
      obtain ⟨p, p0, p1, p2, p3⟩ := span_read ht
      obtain ⟨_, _, hce⟩ := World.cells?_some hcc
      exact ⟨p, (hce 0 (by omega)).trans p0, (hce 1 (by omega)).trans p1, (hce 2 (by omega)).trans p2, (hce 3 (by omega)).trans p3⟩
    have hL : ((List.range l).map fun i => if h : i < l then Classical.choose (each i h) else ((0, 0, 0, 0) : Sp)).length = l := by simp
    refine ⟨_, (List.range l).map fun i => if h : i < l then Classical.choose (each i h) else ((0, 0, 0, 0) : Sp), hcs, some y, c, by rw [hL], by rw [hL]; exact hl, hm, fun hp => ?_⟩
    have hp' : 0 < l := by rw [spCs_len, hL] at hp; omega
    obtain ⟨b, o, s⟩ := y
    obtain ⟨p, h0, _⟩ := each 0 hp'
    have hs : s = none := by simpa [Addr.add] using World.cell?_spot h0
    subst hs
    refine ⟨b, o, rfl, ?_, spCs_cells _ fun k hk => ?_⟩
    · have := World.block_lt_of_cell? W _ h0
      simpa [Addr.add] using this
    · have hk' : k < l := by rw [hL] at hk; exact hk
      have hpt : ((List.range l).map fun i => if h : i < l then Classical.choose (each i h) else ((0, 0, 0, 0) : Sp))[k] = Classical.choose (each k hk') := by
        rw [List.getElem_map, List.getElem_range, dif_pos hk']
      rw [hpt]
      obtain ⟨g0, g1, g2, g3⟩ := Classical.choose_spec (each k hk')
      generalize Classical.choose (each k hk') = q at g0 g1 g2 g3 ⊢
      rw [addr_addN] at g0 g1 g2 g3
      exact ⟨g0, g1, g2, g3⟩
theorem match_read {H : Type} {enc : TypeId × Value → H} {W : World} {fuel : Nat} {cs : List Value} {x : DataW H × List MemPlace}
    (h : DataW.trod enc Try.prog W 0 (fun _ => true) true fuel 60 cs = some x) : ∃ q : (Value × Value) × Mt, cs[0]? = some q.1.1 ∧ cs[1]? = some q.1.2 ∧ SV W W.heap.size q.1.1 q.2.1 ∧ SV W W.heap.size q.1.2 q.2.2 := by
  obtain ⟨f0, f1, hu, t0, t1, o0, o1⟩ := match_fields
  obtain ⟨xs, n, rfl, _, _, hxl, hall⟩ := DataW.trod_struct hu h
  have hl3 : xs.length = 2 := hxl
  obtain ⟨x0, h0⟩ : ∃ y, xs[0]? = some y := ⟨xs[0]'(by omega), List.getElem?_eq_getElem (by omega)⟩
  obtain ⟨x1, h1⟩ : ∃ y, xs[1]? = some y := ⟨xs[1]'(by omega), List.getElem?_eq_getElem (by omega)⟩
  have e0 := hall 0 f0 rfl
  have e1 := hall 1 f1 rfl
  rw [t0, o0, cellsSpans, h0] at e0
  rw [t1, o1, cellsSpans, h1] at e1
  obtain ⟨v0, l0, hc0, s0⟩ := open_sp e0
  obtain ⟨v1, l1, hc1, s1⟩ := open_sp e1
  exact ⟨((v0, v1), (l0, l1)), one_ofN hc0, one_ofN hc1, s0, s1⟩
def IsMs (w : World) (a : Option Addr) (len cap : Nat) (ms : List Mt) : Prop := len = ms.length ∧ len ≤ cap ∧ cap ≤ maxLen ∧ MS w w.heap.size a ms
theorem open_ms {H : Type} {enc : TypeId × Value → H} {W : World} {a : Option Addr} {len cap fuel : Nat} {x : DataW H × List MemPlace}
    (hf : DataW.trod enc Try.prog W 0 (fun _ => true) true fuel 22 (Value.cells (.slice a len cap)).toList = some x) : ∃ ms, IsMs W a len cap ms := by
  rcases DataW.trod_slice Try.underlying22 hf with ⟨hcs, _⟩ | ⟨y, l, c, elems, rest, n, _, hcs, _, _, hl, hm, hlen, hel, _, _⟩
  · simp [Value.cells] at hcs
    obtain ⟨rfl, rfl, rfl⟩ := hcs
    exact ⟨[], rfl, Nat.le_refl _, by decide, MS.nil _ _ _⟩
  · simp [Value.cells] at hcs
    obtain ⟨rfl, rfl, rfl⟩ := hcs
    have each : ∀ i, i < len → ∃ q : (Value × Value) × Mt, W.cell? ((y.add (i * 2)).add 0) = some q.1.1 ∧ W.cell? ((y.add (i * 2)).add 1) = some q.1.2 ∧ SV W W.heap.size q.1.1 q.2.1 ∧ SV W W.heap.size q.1.2 q.2.2 := fun i hi => by
      have h1 := hel i hi
      rw [cellsMatch] at h1
      obtain ⟨q, hq⟩ : ∃ q, elems[i]? = some q := ⟨elems[i]'(by omega), List.getElem?_eq_getElem (by omega)⟩
      rw [hq] at h1
      obtain ⟨cs, hcc, ht⟩ := Option.bind_eq_some_iff.1 h1
      obtain ⟨p, p0, p1, p2, p3⟩ := match_read ht
      obtain ⟨_, _, hce⟩ := World.cells?_some hcc
      exact ⟨p, (hce 0 (by omega)).trans p0, (hce 1 (by omega)).trans p1, p2, p3⟩
    obtain ⟨qs, hqs⟩ : ∃ qs : List ((Value × Value) × Mt), qs = (List.range len).map fun i => if h : i < len then Classical.choose (each i h) else ((.slice none 0 0, .slice none 0 0), ([], [])) := ⟨_, rfl⟩
    have hL : qs.length = len := by rw [hqs]; simp
    have hq : ∀ k (hk : k < qs.length), W.cell? ((y.add (k * 2)).add 0) = some qs[k].1.1 ∧ W.cell? ((y.add (k * 2)).add 1) = some qs[k].1.2 ∧ SV W W.heap.size qs[k].1.1 qs[k].2.1 ∧ SV W W.heap.size qs[k].1.2 qs[k].2.2 := fun k hk => by
      have hk' : k < len := by rw [hL] at hk; exact hk
      have hpt : qs[k] = Classical.choose (each k hk') := by
        subst hqs
        rw [List.getElem_map, List.getElem_range, dif_pos hk']
      rw [hpt]
      exact Classical.choose_spec (each k hk')
    refine ⟨qs.map (·.2), by simp [hL], hl, hm, qs.map (·.1), fun hp => ?_, by simp, fun k h1 h2 => ?_⟩
    · have hp' : 0 < qs.length := by rw [zC_len, List.length_map] at hp; omega
      obtain ⟨b, o, s⟩ := y
      obtain ⟨h0, _⟩ := hq 0 hp'
      have hs : s = none := by simpa [Addr.add] using World.cell?_spot h0
      subst hs
      refine ⟨b, o, rfl, ?_, zC_cells _ fun k hk => ?_⟩
      · have := World.block_lt_of_cell? W _ h0
        simpa [Addr.add] using this
      · rw [List.length_map] at hk
        obtain ⟨g0, g1, _⟩ := hq k hk
        rw [addr_addN] at g0 g1
        rw [List.getElem_map]
        exact ⟨g0, g1⟩
    · rw [List.length_map] at h1
      rw [List.getElem_map, List.getElem_map]
      exact (hq k h1).2.2
end Go.Proofs.Ytafbjadlklcicaa
