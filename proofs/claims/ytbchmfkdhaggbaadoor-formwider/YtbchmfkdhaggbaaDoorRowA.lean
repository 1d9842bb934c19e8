/- What the rows of this seat hand the walks besides: options that came in. -/
import Derived.Test.YtbchmfkdhaggbaaDoorRowG
import Derived.ChangeArms
import Derived.DataReads
namespace Go.Proofs.YtbchmfkdhaggbaaDoor
open Go.ChangeShapes Go.WideShapes Go.ChangeAt Go.RowKit
set_option maxRecDepth 100000

theorem opt_fields : ∃ f0 f1 f2 f3 f4, Tryd.prog.underlying 23 = some (.struct #[f0, f1, f2, f3, f4]) ∧ f0.type = 4 ∧ f1.type = 4 ∧ f2.type = 4 ∧ f3.type = 4 ∧ f4.type = 4 ∧ f0.offset = 0 ∧ f1.offset = 1 ∧ f2.offset = 2 ∧ f3.offset = 3 ∧ f4.offset = 4 :=
  ⟨_, _, _, _, _, Tryd.underlying23, rfl, rfl, rfl, rfl, rfl, rfl, rfl, rfl, rfl, rfl⟩
theorem cellsOpt : Tryd.prog.cellsOf 23 = 5 := by kernel_rfl
theorem cellsBool : Tryd.prog.cellsOf 4 = 1 := by kernel_rfl
theorem array5 {α : Type} {cs : Array α} (h : cs.size = 5) : ∃ c0 c1 c2 c3 c4, cs = #[c0, c1, c2, c3, c4] := by
  obtain ⟨l⟩ := cs
  match l, h with
  | [c0, c1, c2, c3, c4], _ => exact ⟨c0, c1, c2, c3, c4, rfl⟩
theorem open_opt {H : Type} {enc : TypeId × Value → H} {W : World} {r : Reach} {b0 : Nat} {v : Value} {d : DataW H} {p : List MemPlace}
    (hv : Value.okWide Tryd.prog W r b0 23 v) (h : DataW.Trod enc Tryd.prog W 0 (fun _ => true) true 23 v d p) : ∃ cs mk st sp wd : Bool, v = .agg #[.bool cs, .bool mk, .bool st, .bool sp, .bool wd] := by
  obtain ⟨f0, f1, f2, f3, f4, hu, t0, t1, t2, t3, t4, o0, o1, o2, o3, o4⟩ := opt_fields
  obtain ⟨cs, rfl, hsz⟩ := okWide_struct hu hv
  obtain ⟨c0, c1, c2, c3, c4, rfl⟩ := array5 (hsz.trans cellsOpt)
  obtain ⟨fuel, hf⟩ := h
  obtain ⟨xs, n, rfl, _, _, hxl, hall⟩ := DataW.trod_struct hu hf
  have hl5 : xs.length = 5 := hxl
  have ex : ∀ i, i < 5 → ∃ y, xs[i]? = some y := fun i hi => ⟨xs[i]'(by omega), List.getElem?_eq_getElem (by omega)⟩
  obtain ⟨x0, h0⟩ := ex 0 (by omega)
  obtain ⟨x1, h1⟩ := ex 1 (by omega)
  obtain ⟨x2, h2⟩ := ex 2 (by omega)
  obtain ⟨x3, h3⟩ := ex 3 (by omega)
  obtain ⟨x4, h4⟩ := ex 4 (by omega)
  have e0 := hall 0 f0 rfl
  have e1 := hall 1 f1 rfl
  have e2 := hall 2 f2 rfl
  have e3 := hall 3 f3 rfl
  have e4 := hall 4 f4 rfl
  rw [t0, o0, cellsBool, h0] at e0
  rw [t1, o1, cellsBool, h1] at e1
  rw [t2, o2, cellsBool, h2] at e2
  rw [t3, o3, cellsBool, h3] at e3
  rw [t4, o4, cellsBool, h4] at e4
  obtain ⟨m0, hm0, _⟩ := DataW.trod_bool Tryd.underlying4 e0
  obtain ⟨m1, hm1, _⟩ := DataW.trod_bool Tryd.underlying4 e1
  obtain ⟨m2, hm2, _⟩ := DataW.trod_bool Tryd.underlying4 e2
  obtain ⟨m3, hm3, _⟩ := DataW.trod_bool Tryd.underlying4 e3
  obtain ⟨m4, hm4, _⟩ := DataW.trod_bool Tryd.underlying4 e4
  simp [Value.cells] at hm0 hm1 hm2 hm3 hm4
  exact ⟨m0, m1, m2, m3, m4, by rw [hm0, hm1, hm2, hm3, hm4]⟩
end Go.Proofs.YtbchmfkdhaggbaaDoor
