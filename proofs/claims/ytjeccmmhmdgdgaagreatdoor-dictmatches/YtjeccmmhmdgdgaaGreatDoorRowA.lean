/- RowG, RowA in one text. -/
import Derived.Test.YtjeccmmhmdgdgaaGreatDoorRows
import Derived.Test.YtjeccmmhmdgdgaaGreatDoorShelf
import Derived.Test.YtjeccmmhmdgdgaaGreatDoorUtfW
import Derived.Test.YtjeccmmhmdgdgaaGreatDoorMem2
import Derived.ProofKit
import Derived.OpenShut
import Derived.Below
import Derived.Deep.DeepHandedRow
import Derived.Lib.LaidTab
import Derived.Lib.LaidU8
import Derived.MakeChecks
import Derived.ChangeArms
import Derived.DataReads
/- What the rows of this seat hand the walks: unicode/utf8's two tables in memory, slices of bytes as lists, a world for the witness. -/
namespace Go.Proofs.YtjeccmmhmdgdgaaGreatDoor
open Go.ChangeShapes Go.WideShapes Go.ChangeAt Go.RowKit
set_option maxRecDepth 100000

/-- A slice of integers that came in. -/
def IsRow (k : IntKind) (w : World) (a : Option Addr) (len cap : Nat) (zs : List Int) : Prop :=
  (a = none ∧ len = 0 ∧ cap = 0 ∧ zs = []) ∨
  ∃ x, a = some x ∧ len ≤ cap ∧ cap ≤ maxLen ∧ zs.length = cap ∧ (∀ i, i < zs.length → w.cell? (x.add i) = some (.int k (zs.getD i 0))) ∧ ∀ n ∈ zs, (Lit.int k n).wf = true
theorem IsRow.bs {w : World} {a : Option Addr} {len cap : Nat} {zs : List Int} (h : IsRow .u8 w a len cap zs) : ∃ l : List UInt8, len = l.length ∧ len ≤ cap ∧ cap ≤ maxLen ∧ BS w w.heap.size a l := by
  rcases h with ⟨rfl, rfl, rfl, rfl⟩ | ⟨x, rfl, hl, hm, hz, hc, hw⟩
  · exact ⟨[], rfl, Nat.le_refl _, by decide, BS.nil _ _ _⟩
  · refine ⟨(zs.take len).map fun n => UInt8.ofNat n.toNat, by simp; omega, hl, hm, fun hp => ?_⟩
    have hlen : ((zs.take len).map fun n => UInt8.ofNat n.toNat).length = len := by simp; omega
    rw [hlen] at hp
    obtain ⟨b, o, s⟩ := x
    have h0 := hc 0 (by omega)
    have hs : s = none := by simpa [Addr.add] using World.cell?_spot h0
    subst hs
    refine ⟨b, o, rfl, World.block_lt_of_cell? w _ h0, fun k hk => ?_⟩
    rw [hlen] at hk
    have hk' : k < zs.length := by omega
    have e := hc k hk'
    rw [addr_add] at e
    rw [e]
    have hwf := hw (zs.getD k 0) (by rw [List.getD_eq_getElem?_getD, List.getElem?_eq_getElem hk']; exact List.getElem_mem hk')
    have hr : 0 ≤ zs.getD k 0 ∧ zs.getD k 0 ≤ 255 := by simpa [Lit.wf, IntKind.min, IntKind.max, IntKind.signed, IntKind.bits] using hwf
    unfold at8
    rw [List.getElem?_map, List.getElem?_take_of_lt hk]
    rw [List.getD_eq_getElem?_getD, List.getElem?_eq_getElem hk'] at hr ⊢
    simp only [Option.getD_some, Option.map_some] at hr ⊢
    rw [UInt8.toNat_ofNat']
    congr 2
    omega

theorem extra8 : U8Extra Tryz.prog Tryz.lays260_ren := ⟨by kernel_rfl, by kernel_rfl, by kernel_rfl, by kernel_rfl, by kernel_rfl, by kernel_rfl, by kernel_rfl⟩
theorem first_is : Rows.laid_unicode_utf8_first = Lib.firstData := by kernel_rfl
theorem accept_is : (Rows.laid_unicode_utf8_acceptRanges : DataW Unit) = Lib.acceptData := by kernel_rfl
theorem ut_of {W : World} (h : laidMetH Tryz.prog [("unicode/utf8.acceptRanges", Rows.laid_unicode_utf8_acceptRanges), ("unicode/utf8.first", Rows.laid_unicode_utf8_first)] W) : UT W := by
  rw [first_is, accept_is, Go.MakeChecks.laidMetH_plain _ _ _ (by kernel_rfl)] at h
  exact utf8Tabs_of_reads Tryz.lays260 extra8 (Lib.laidMet.reads h (by simp)) (Lib.laidMet.reads h (by simp))
/-- A world for the witness: the settled one, the two tables holding what their initialisers lay. -/
noncomputable def laidWorld (os : Os) : World :=
  let w0 := World.holding Tryz.prog os ⟨#[], #[], []⟩
  let put (h : Array Obj) (g : Nat) (cs : Array Value) : Array Obj := h.modify g fun
    | .cells _ t frozen => .cells cs t frozen
    | o => o
  { w0 with heap := put (put w0.heap 0 (Lib.firstTab.map fun z => Value.int .u8 z).toArray) 1 ((List.range 16).flatMap fun i => [Value.int .u8 (Lib.accLo i), Value.int .u8 (Lib.accHi i)]).toArray }
end Go.Proofs.YtjeccmmhmdgdgaaGreatDoor
/- What the rows of this seat hand the walks besides: options that came in. -/
namespace Go.Proofs.YtjeccmmhmdgdgaaGreatDoor
open Go.ChangeShapes Go.WideShapes Go.ChangeAt Go.RowKit
set_option maxRecDepth 100000

theorem opt_fields : ∃ f0 f1 f2 f3 f4, Tryz.prog.underlying 24 = some (.struct #[f0, f1, f2, f3, f4]) ∧ f0.type = 4 ∧ f1.type = 4 ∧ f2.type = 4 ∧ f3.type = 4 ∧ f4.type = 4 ∧ f0.offset = 0 ∧ f1.offset = 1 ∧ f2.offset = 2 ∧ f3.offset = 3 ∧ f4.offset = 4 :=
  ⟨_, _, _, _, _, Tryz.underlying24, rfl, rfl, rfl, rfl, rfl, rfl, rfl, rfl, rfl, rfl⟩
theorem cellsOpt : Tryz.prog.cellsOf 24 = 5 := by kernel_rfl
theorem cellsBool : Tryz.prog.cellsOf 4 = 1 := by kernel_rfl
theorem array5 {α : Type} {cs : Array α} (h : cs.size = 5) : ∃ c0 c1 c2 c3 c4, cs = #[c0, c1, c2, c3, c4] := by
  obtain ⟨l⟩ := cs
  match l, h with
  | [c0, c1, c2, c3, c4], _ => exact ⟨c0, c1, c2, c3, c4, rfl⟩
theorem open_opt {H : Type} {enc : TypeId × Value → H} {W : World} {r : Reach} {b0 : Nat} {v : Value} {d : DataW H} {p : List MemPlace}
    (hv : Value.okWide Tryz.prog W r b0 24 v) (h : DataW.Trod enc Tryz.prog W 0 (fun _ => true) true 24 v d p) : ∃ cs mk st sp wd : Bool, v = .agg #[.bool cs, .bool mk, .bool st, .bool sp, .bool wd] := by
  obtain ⟨f0, f1, f2, f3, f4, hu, t0, t1, t2, t3, t4, o0, o1, o2, o3, o4⟩ := opt_fields
  obtain ⟨cs, rfl, hsz⟩ := okWide_struct hu hv
  obtain ⟨c0, c1, c2, c3, c4, rfl⟩ := array5 (hsz.trans cellsOpt)
  obtain ⟨fuel, hf⟩ := h
  obtain ⟨xs, n, rfl, _, _, hxl, hall⟩ := DataW.trod_struct hu hf
  have hl5 : xs.length = 5 := hxl
  have ex : ∀ i, i < 5 → ∃ y, xs[i]? = some y := fun i hi => ⟨xs[i]'(by omega), List.getElem?_eq_getElem (by omega)⟩
  obtain ⟨x0, h0⟩ := ex 0 (by omega)
  obtain ⟨x1, h1⟩ := ex 1 (by omega)
  obtain ⟨x2, h2⟩ := ex 2 (by omega)
  obtain ⟨x3, h3⟩ := ex 3 (by omega)
  obtain ⟨x4, h4⟩ := ex 4 (by omega)
  have e0 := hall 0 f0 rfl
  have e1 := hall 1 f1 rfl
  have e2 := hall 2 f2 rfl
  have e3 := hall 3 f3 rfl
  have e4 := hall 4 f4 rfl
  rw [t0, o0, cellsBool, h0] at e0
  rw [t1, o1, cellsBool, h1] at e1
  rw [t2, o2, cellsBool, h2] at e2
  rw [t3, o3, cellsBool, h3] at e3
  rw [t4, o4, cellsBool, h4] at e4
  obtain ⟨m0, hm0, _⟩ := DataW.trod_bool Tryz.underlying4 e0
  obtain ⟨m1, hm1, _⟩ := DataW.trod_bool Tryz.underlying4 e1
  obtain ⟨m2, hm2, _⟩ := DataW.trod_bool Tryz.underlying4 e2
  obtain ⟨m3, hm3, _⟩ := DataW.trod_bool Tryz.underlying4 e3
  obtain ⟨m4, hm4, _⟩ := DataW.trod_bool Tryz.underlying4 e4
  simp [Value.cells] at hm0 hm1 hm2 hm3 hm4
  exact ⟨m0, m1, m2, m3, m4, by rw [hm0, hm1, hm2, hm3, hm4]⟩
end Go.Proofs.YtjeccmmhmdgdgaaGreatDoor
