/- What VintReads' row hands its walk: a slice of parts, a slice of integers. -/
import Derived.Test.YthnghgnoonfgiaaDoorRowV
import Derived.Test.YthnghgnoonfgiaaDoorReadsWalk
import Derived.ChangeArms
import Derived.DataReads
namespace Go.Proofs.YthnghgnoonfgiaaDoor
open Go.ChangeShapes Go.WideShapes Go.ChangeAt Go.RowKit
set_option maxRecDepth 100000

def IsParts (w : World) (a : Option Addr) (len : Nat) (ps : List Pt) : Prop := len = ps.length ∧ SP w w.heap.size a ps
theorem part_fields : ∃ f0 f1 f2, Tryd.prog.underlying 35 = some (.struct #[f0, f1, f2]) ∧ f0.type = 4 ∧ f1.type = 3 ∧ f2.type = 9 ∧ f0.offset = 0 ∧ f1.offset = 1 ∧ f2.offset = 2 :=
  ⟨_, _, _, Tryd.underlying35, rfl, rfl, rfl, rfl, rfl, rfl⟩
theorem cellsPart : Tryd.prog.cellsOf 35 = 3 := by kernel_rfl
theorem cellsBool : Tryd.prog.cellsOf 4 = 1 := by kernel_rfl
theorem cellsInt : Tryd.prog.cellsOf 3 = 1 := by kernel_rfl
theorem cellsString : Tryd.prog.cellsOf 9 = 1 := by kernel_rfl
theorem one_of {cs : List Value} {i : Nat} {v : Value} (h : (cs.drop i).take 1 = [v]) : cs[i]? = some v := by
  have := congrArg (·[0]?) h
  simpa [List.getElem?_take, List.getElem?_drop] using this
theorem part_read {H : Type} {enc : TypeId × Value → H} {W : World} {fuel : Nat} {cs : List Value} {x : DataW H × List MemPlace}
    (h : DataW.trod enc Tryd.prog W 0 (fun _ => true) true fuel 35 cs = some x) : ∃ p : Pt, cs[0]? = some (.bool p.1) ∧ cs[1]? = some (.int .i64 p.2.1) ∧ cs[2]? = some (.string p.2.2) := by
  obtain ⟨f0, f1, f2, hu, t0, t1, t2, o0, o1, o2⟩ := part_fields
  obtain ⟨xs, n, rfl, _, _, hxl, hall⟩ := DataW.trod_struct hu h
  have hl3 : xs.length = 3 := hxl
  obtain ⟨x0, h0⟩ : ∃ y, xs[0]? = some y := ⟨xs[0]'(by omega), List.getElem?_eq_getElem (by omega)⟩
  obtain ⟨x1, h1⟩ : ∃ y, xs[1]? = some y := ⟨xs[1]'(by omega), List.getElem?_eq_getElem (by omega)⟩
  obtain ⟨x2, h2⟩ : ∃ y, xs[2]? = some y := ⟨xs[2]'(by omega), List.getElem?_eq_getElem (by omega)⟩
  have e0 := hall 0 f0 rfl
  have e1 := hall 1 f1 rfl
  have e2 := hall 2 f2 rfl
  rw [t0, o0, cellsBool, h0] at e0
  rw [t1, o1, cellsInt, h1] at e1
  rw [t2, o2, cellsString, h2] at e2
  obtain ⟨b, hb, _⟩ := DataW.trod_bool Tryd.underlying4 e0
  obtain ⟨m, hm, _, _⟩ := DataW.trod_int Tryd.underlying3 e1
  obtain ⟨s, hs, _, _⟩ := DataW.trod_string Tryd.underlying9 e2
  exact ⟨(b, m, s), one_of hb, one_of hm, one_of hs⟩
theorem open_parts {H : Type} {enc : TypeId × Value → H} {W : World} {a : Option Addr} {len cap fuel : Nat} {x : DataW H × List MemPlace}
    (hf : DataW.trod enc Tryd.prog W 0 (fun _ => true) true fuel 32 (Value.cells (.slice a len cap)).toList = some x) : ∃ ps, IsParts W a len ps := by
  rcases DataW.trod_slice Tryd.underlying32 hf with ⟨hcs, _⟩ | ⟨y, l, c, elems, rest, n, _, hcs, _, _, hl, hm, hlen, hel, _, _⟩
  · simp [Value.cells] at hcs
    obtain ⟨rfl, rfl, rfl⟩ := hcs
    exact ⟨[], rfl, fun h => absurd h (by simp)⟩
  · simp [Value.cells] at hcs
    obtain ⟨rfl, rfl, rfl⟩ := hcs
    have each : ∀ i, i < len → ∃ p : Pt, W.cell? ((y.add (i * 3)).add 0) = some (.bool p.1) ∧ W.cell? ((y.add (i * 3)).add 1) = some (.int .i64 p.2.1) ∧ W.cell? ((y.add (i * 3)).add 2) = some (.string p.2.2) := fun i hi => by
      have h1 := hel i hi
      rw [cellsPart] at h1
      obtain ⟨q, hq⟩ : ∃ q, elems[i]? = some q := ⟨elems[i]'(by omega), List.getElem?_eq_getElem (by omega)⟩
      rw [hq] at h1
      obtain ⟨cs, hcc, ht⟩ := Option.bind_eq_some_iff.1 h1
      obtain ⟨p, p0, p1, p2⟩ := part_read ht
      obtain ⟨_, _, hce⟩ := World.cells?_some hcc
      exact ⟨p, (hce 0 (by omega)).trans p0, (hce 1 (by omega)).trans p1, (hce 2 (by omega)).trans p2⟩
    refine ⟨(List.range len).map fun i => if h : i < len then Classical.choose (each i h) else (false, 0, ByteArray.empty), by simp, fun hp => ?_⟩
    have hp' : 0 < len := by simpa using hp
    obtain ⟨b, o, s⟩ := y
    obtain ⟨p, h0, _, _⟩ := each 0 hp'
    have hs : s = none := by simpa [Addr.add] using World.cell?_spot h0
    subst hs
    refine ⟨b, o, rfl, ?_, fun k hk => ?_⟩
    · have := World.block_lt_of_cell? W _ h0
      simpa [Addr.add] using this
    · have hk' : k < len := by simpa using hk
      have hpt : ptAt ((List.range len).map fun i => if h : i < len then Classical.choose (each i h) else (false, 0, ByteArray.empty)) k = Classical.choose (each k hk') := by
        unfold ptAt
        rw [List.getElem?_map, List.getElem?_range hk']
        simp [hk']
      rw [hpt]
      obtain ⟨g0, g1, g2⟩ := Classical.choose_spec (each k hk')
      generalize Classical.choose (each k hk') = q at g0 g1 g2 ⊢
      rw [addr_add, addr_add] at g0 g1 g2
      exact ⟨g0, g1, g2⟩
theorem IsRow.si {w : World} {a : Option Addr} {len cap : Nat} {zs : List Int} (h : IsRow .i64 w a len cap zs) : ∃ ms : List Int, len = ms.length ∧ SI w w.heap.size a ms := by
  rcases h with ⟨rfl, rfl, rfl, rfl⟩ | ⟨x, rfl, hl, hm, hz, hc, hw⟩
  · exact ⟨[], rfl, fun h => absurd h (by simp)⟩
  · refine ⟨zs.take len, by simp; omega, fun hp => ?_⟩
    have hlen : (zs.take len).length = len := by simp; omega
    rw [hlen] at hp
    obtain ⟨b, o, s⟩ := x
    have h0 := hc 0 (by omega)
    have hs : s = none := by simpa [Addr.add] using World.cell?_spot h0
    subst hs
    refine ⟨b, o, rfl, World.block_lt_of_cell? w _ h0, fun k hk => ?_⟩
    rw [hlen] at hk
    have hk' : k < zs.length := by omega
    have e := hc k hk'
    rw [addr_add] at e
    have hg : (zs.take len).getD k 0 = zs.getD k 0 := by rw [List.getD_eq_getElem?_getD, List.getD_eq_getElem?_getD, List.getElem?_take_of_lt hk]
    have hwf := hw (zs.getD k 0) (by rw [List.getD_eq_getElem?_getD, List.getElem?_eq_getElem hk']; exact List.getElem_mem hk')
    have hr : -9223372036854775808 ≤ zs.getD k 0 ∧ zs.getD k 0 ≤ 9223372036854775807 := by simpa [Lit.wf, IntKind.min, IntKind.max, IntKind.signed, IntKind.bits] using hwf
    rw [hg]
    exact ⟨e, hr.1, hr.2⟩
end Go.Proofs.YthnghgnoonfgiaaDoor
