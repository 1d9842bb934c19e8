/- What the rows of GlobMatches and GlobMaps hand the walks: a slice of the laws' parts, unicode/utf8's two tables out of five, a world for the witness. -/
import Derived.Test.YtdijicdlglnlmaaDoorRowG
import Derived.Test.YtdijicdlglnlmaaDoorGlTxt
import Derived.ChangeArms
import Derived.DataReads
namespace Go.Proofs.YtdijicdlglnlmaaDoor
open Go.ChangeShapes Go.WideShapes Go.ChangeAt Go.RowKit
set_option maxRecDepth 100000

def IsParts (w : World) (a : Option Addr) (len : Nat) (ps : List LP) : Prop := len = ps.length ∧ IP w w.heap.size a ps
theorem part_fields : ∃ f0 f1 f2 f3, Tryd.prog.underlying 31 = some (.struct #[f0, f1, f2, f3]) ∧ f0.type = 3 ∧ f1.type = 21 ∧ f2.type = 3 ∧ f3.type = 3 ∧ f0.offset = 0 ∧ f1.offset = 1 ∧ f2.offset = 2 ∧ f3.offset = 3 :=
  ⟨_, _, _, _, Tryd.underlying31, rfl, rfl, rfl, rfl, rfl, rfl, rfl, rfl⟩
theorem cellsPart : Tryd.prog.cellsOf 31 = 4 := by kernel_rfl
theorem cellsInt : Tryd.prog.cellsOf 3 = 1 := by kernel_rfl
theorem cellsInt32 : Tryd.prog.cellsOf 21 = 1 := by kernel_rfl
theorem one_of {cs : List Value} {i : Nat} {v : Value} (h : (cs.drop i).take 1 = [v]) : cs[i]? = some v := by
  have := congrArg (·[0]?) h
  simpa [List.getElem?_take, List.getElem?_drop] using this
theorem part_read {H : Type} {enc : TypeId × Value → H} {W : World} {fuel : Nat} {cs : List Value} {x : DataW H × List MemPlace}
    (h : DataW.trod enc Tryd.prog W 0 (fun _ => true) true fuel 31 cs = some x) : ∃ p : LP, cs[0]? = some (.int .i64 p.1) ∧ cs[1]? = some (.int .i32 p.2.1) ∧ cs[2]? = some (.int .i64 p.2.2.1) ∧ cs[3]? = some (.int .i64 p.2.2.2) := by
  obtain ⟨f0, f1, f2, f3, hu, t0, t1, t2, t3, o0, o1, o2, o3⟩ := part_fields
  obtain ⟨xs, n, rfl, _, _, hxl, hall⟩ := DataW.trod_struct hu h
  have hl3 : xs.length = 4 := hxl
  obtain ⟨x0, h0⟩ : ∃ y, xs[0]? = some y := ⟨xs[0]'(by omega), List.getElem?_eq_getElem (by omega)⟩
  obtain ⟨x1, h1⟩ : ∃ y, xs[1]? = some y := ⟨xs[1]'(by omega), List.getElem?_eq_getElem (by omega)⟩
  obtain ⟨x2, h2⟩ : ∃ y, xs[2]? = some y := ⟨xs[2]'(by omega), List.getElem?_eq_getElem (by omega)⟩
  obtain ⟨x3, h3⟩ : ∃ y, xs[3]? = some y := ⟨xs[3]'(by omega), List.getElem?_eq_getElem (by omega)⟩
  have e0 := hall 0 f0 rfl
  have e1 := hall 1 f1 rfl
  have e2 := hall 2 f2 rfl
  have e3 := hall 3 f3 rfl
  rw [t0, o0, cellsInt, h0] at e0
  rw [t1, o1, cellsInt32, h1] at e1
  rw [t2, o2, cellsInt, h2] at e2
  rw [t3, o3, cellsInt, h3] at e3
  obtain ⟨m0, hm0, _, _⟩ := DataW.trod_int Tryd.underlying3 e0
  obtain ⟨m1, hm1, _, _⟩ := DataW.trod_int Tryd.underlying21 e1
  obtain ⟨m2, hm2, _, _⟩ := DataW.trod_int Tryd.underlying3 e2
  obtain ⟨m3, hm3, _, _⟩ := DataW.trod_int Tryd.underlying3 e3
  exact ⟨(m0, m1, m2, m3), one_of hm0, one_of hm1, one_of hm2, one_of hm3⟩
theorem open_parts {H : Type} {enc : TypeId × Value → H} {W : World} {a : Option Addr} {len cap fuel : Nat} {x : DataW H × List MemPlace}
    (hf : DataW.trod enc Tryd.prog W 0 (fun _ => true) true fuel 22 (Value.cells (.slice a len cap)).toList = some x) : ∃ ps, IsParts W a len ps := by
  rcases DataW.trod_slice Tryd.underlying22 hf with ⟨hcs, _⟩ | ⟨y, l, c, elems, rest, n, _, hcs, _, _, hl, hm, hlen, hel, _, _⟩
  · simp [Value.cells] at hcs
    obtain ⟨rfl, rfl, rfl⟩ := hcs
    exact ⟨[], rfl, fun h => absurd h (by simp)⟩
  · simp [Value.cells] at hcs
    obtain ⟨rfl, rfl, rfl⟩ := hcs
    have each : ∀ i, i < len → ∃ p : LP, W.cell? ((y.add (i * 4)).add 0) = some (.int .i64 p.1) ∧ W.cell? ((y.add (i * 4)).add 1) = some (.int .i32 p.2.1) ∧ W.cell? ((y.add (i * 4)).add 2) = some (.int .i64 p.2.2.1) ∧ W.cell? ((y.add (i * 4)).add 3) = some (.int .i64 p.2.2.2) := fun i hi => by
      have h1 := hel i hi
      rw [cellsPart] at h1
      obtain ⟨q, hq⟩ : ∃ q, elems[i]? = some q := ⟨elems[i]'(by omega), List.getElem?_eq_getElem (by omega)⟩
      rw [hq] at h1
      obtain ⟨cs, hcc, ht⟩ := Option.bind_eq_some_iff.1 h1
      obtain ⟨p, p0, p1, p2, p3⟩ := part_read ht
      obtain ⟨_, _, hce⟩ := World.cells?_some hcc
      exact ⟨p, (hce 0 (by omega)).trans p0, (hce 1 (by omega)).trans p1, (hce 2 (by omega)).trans p2, (hce 3 (by omega)).trans p3⟩
    refine ⟨(List.range len).map fun i => if h : i < len then Classical.choose (each i h) else (0, 0, 0, 0), by simp, fun hp => ?_⟩
    have hp' : 0 < len := by simpa using hp
    obtain ⟨b, o, s⟩ := y
    obtain ⟨p, h0, _, _, _⟩ := each 0 hp'
    have hs : s = none := by simpa [Addr.add] using World.cell?_spot h0
    subst hs
    refine ⟨b, o, rfl, ?_, fun k hk => ?_⟩
    · have := World.block_lt_of_cell? W _ h0
      simpa [Addr.add] using this
    · have hk' : k < len := by simpa using hk
      have hpt : ((List.range len).map fun i => if h : i < len then Classical.choose (each i h) else (0, 0, 0, 0))[k] = Classical.choose (each k hk') := by
        rw [List.getElem_map, List.getElem_range, dif_pos hk']
      rw [hpt]
      obtain ⟨g0, g1, g2, g3⟩ := Classical.choose_spec (each k hk')
      generalize Classical.choose (each k hk') = q at g0 g1 g2 g3 ⊢
      rw [addr_add, addr_add] at g0 g1 g2 g3
      exact ⟨g0, g1, g2, g3⟩
theorem ut_of5 {W : World} (h : laidMetH Tryd.prog [("math/bits.deBruijn32tab", Rows.laid_math_bits_deBruijn32tab), ("math/bits.deBruijn64tab", Rows.laid_math_bits_deBruijn64tab), ("internal/strconv.uint64pow10", Rows.laid_internal_strconv_uint64pow10), ("unicode/utf8.acceptRanges", Rows.laid_unicode_utf8_acceptRanges), ("unicode/utf8.first", Rows.laid_unicode_utf8_first)] W) : UT W := by
  rw [first_is, accept_is, Go.MakeChecks.laidMetH_plain _ _ _ (by kernel_rfl)] at h
  exact utf8Tabs_of_reads Tryd.lays260 extra8 (Lib.laidMet.reads h (by simp)) (Lib.laidMet.reads h (by simp))
/-- The cells of a laid table of integers. -/
def litCells : DataW Unit → Array Value
  | .agg xs => (xs.map fun | .lit (.int k z) => Value.int k z | _ => Value.int .u8 0).toArray
  | _ => #[]
/-- A world for the witness: the settled one, the five tables holding what their initialisers lay. -/
noncomputable def laidWorld5 (os : Os) : World :=
  let w0 := laidWorld os
  let put (h : Array Obj) (g : Nat) (cs : Array Value) : Array Obj := h.modify g fun
    | .cells _ t frozen => .cells cs t frozen
    | o => o
  { w0 with heap := put (put (put w0.heap 2 (litCells Rows.laid_internal_strconv_uint64pow10)) 3 (litCells Rows.laid_math_bits_deBruijn32tab)) 4 (litCells Rows.laid_math_bits_deBruijn64tab) }
end Go.Proofs.YtdijicdlglnlmaaDoor
