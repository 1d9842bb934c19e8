/- What the rows hand the walks: hits. -/
import Derived.Test.YtjigaoclngfcaaaRowH
import Derived.Test.YtjigaoclngfcaaaPoRi
import Derived.ChangeArms
import Derived.DataReads
import Derived.ChangeSlices
namespace Go.Proofs.Ytjigaoclngfcaaa
open Go.ChangeShapes Go.WideShapes Go.ChangeAt Go.RowKit
set_option maxRecDepth 100000

def IsHits (w : World) (a : Option Addr) (len cap : Nat) (hs : List HI) : Prop := len = hs.length ∧ len ≤ cap ∧ cap ≤ maxLen ∧ HS w w.heap.size a hs
theorem hit_fields : ∃ f0 f1, Try.prog.underlying 37 = some (.struct #[f0, f1]) ∧ f0.type = 3 ∧ f1.type = 33 ∧ f0.offset = 0 ∧ f1.offset = 1 :=
  ⟨_, _, Try.underlying37, rfl, rfl, rfl, rfl⟩
theorem cellsHit : Try.prog.cellsOf 37 = 2 := by kernel_rfl
theorem cellsIntQ : Try.prog.cellsOf 3 = 1 := by kernel_rfl
theorem cellsInts : Try.prog.cellsOf 33 = 1 := by kernel_rfl
theorem one_ofQ {cs : List Value} {i : Nat} {v : Value} (h : (cs.drop i).take 1 = [v]) : cs[i]? = some v := by
  have := congrArg (·[0]?) h
  simpa [List.getElem?_take, List.getElem?_drop] using this
theorem hit_read {H : Type} {enc : TypeId × Value → H} {W : World} {fuel : Nat} {cs : List Value} {x : DataW H × List MemPlace}
    (h : DataW.trod enc Try.prog W 0 (fun _ => true) true fuel 37 cs = some x) : ∃ (p : HI) (A : Option Addr) (c : Nat), cs[0]? = some (.int .i64 p.1) ∧ cs[1]? = some (.slice A p.2.length c) ∧ p.2.length ≤ c ∧ c ≤ maxLen ∧ CS W W.heap.size A (p.2.map eI) := by
  obtain ⟨f0, f1, hu, t0, t1, o0, o1⟩ := hit_fields
  obtain ⟨xs, n, rfl, _, _, hxl, hall⟩ := DataW.trod_struct hu h
  have hl3 : xs.length = 2 := hxl
  obtain ⟨x0, h0⟩ : ∃ y, xs[0]? = some y := ⟨xs[0]'(by omega), List.getElem?_eq_getElem (by omega)⟩
  obtain ⟨x1, h1⟩ : ∃ y, xs[1]? = some y := ⟨xs[1]'(by omega), List.getElem?_eq_getElem (by omega)⟩
  have e0 := hall 0 f0 rfl
  have e1 := hall 1 f1 rfl
  rw [t0, o0, cellsIntQ, h0] at e0
  rw [t1, o1, cellsInts, h1] at e1
  obtain ⟨m, hm, _, _⟩ := DataW.trod_int Try.underlying3 e0
  rcases open_ints Try.underlying33 Try.underlying3 (by kernel_rfl) e1 with ⟨hcs, _⟩ | ⟨y, l, c, zs, hcs, _, hl, hmx, hz, _, hcell, hwz⟩
  · exact ⟨(m, []), none, 0, one_ofQ hm, one_ofQ hcs, Nat.le_refl _, by decide, CS.nil _ _ _⟩
  · have hr : IsRow .i64 W (some y) l c zs := .inr ⟨_, rfl, hl, hmx, by simpa using hz, hcell, hwz⟩
    obtain ⟨us, hul, huc, hum, hucs⟩ := hr.ci
    subst hul
    exact ⟨(m, us), some y, c, one_ofQ hm, one_ofQ hcs, huc, hum, hucs⟩
theorem open_hits {H : Type} {enc : TypeId × Value → H} {W : World} {a : Option Addr} {len cap fuel : Nat} {x : DataW H × List MemPlace}
    (hf : DataW.trod enc Try.prog W 0 (fun _ => true) true fuel 22 (Value.cells (.slice a len cap)).toList = some x) : ∃ hs, IsHits W a len cap hs := by
  rcases DataW.trod_slice Try.underlying22 hf with ⟨hcs, _⟩ | ⟨y, l, c, elems, rest, n, _, hcs, _, _, hl, hm, hlen, hel, _, _⟩
  · simp [Value.cells] at hcs
    obtain ⟨rfl, rfl, rfl⟩ := hcs
    exact ⟨[], rfl, Nat.le_refl _, by decide, HS.nil _ _ _⟩
  · simp [Value.cells] at hcs
    obtain ⟨rfl, rfl, rfl⟩ := hcs
    have each : ∀ i, i < len → ∃ p : HI, W.cell? ((y.add (i * 2)).add 0) = some (.int .i64 p.1) ∧ ∃ A c, W.cell? ((y.add (i * 2)).add 1) = some (.slice A p.2.length c) ∧ p.2.length ≤ c ∧ c ≤ maxLen ∧ CS W W.heap.size A (p.2.map eI) := fun i hi => by
      have h1 := hel i hi
      rw [cellsHit] at h1
      obtain ⟨q, hq⟩ : ∃ q, elems[i]? = some q := ⟨elems[i]'(by omega), List.getElem?_eq_getElem (by omega)⟩
      rw [hq] at h1
      obtain ⟨cs, hcc, ht⟩ := Option.bind_eq_some_iff.1 h1
      obtain ⟨p, A, c, p0, p1, p2, p3, p4⟩ := hit_read ht
      obtain ⟨_, _, hce⟩ := World.cells?_some hcc
      exact ⟨p, (hce 0 (by omega)).trans p0, A, c, (hce 1 (by omega)).trans p1, p2, p3, p4⟩
    refine ⟨(List.range len).map fun i => if h : i < len then Classical.choose (each i h) else (0, []), by simp, hl, hm, fun hp => ?_⟩
    have hp' : 0 < len := by simpa using hp
    obtain ⟨b, o, s⟩ := y
    obtain ⟨p, h0, _⟩ := each 0 hp'
    have hs : s = none := by simpa [Addr.add] using World.cell?_spot h0
    subst hs
    refine ⟨b, o, rfl, ?_, fun k hk => ?_⟩
    · have := World.block_lt_of_cell? W _ h0
      simpa [Addr.add] using this
    · have hk' : k < len := by simpa using hk
      have hpt : ((List.range len).map fun i => if h : i < len then Classical.choose (each i h) else (0, []))[k] = Classical.choose (each k hk') := by
        rw [List.getElem_map, List.getElem_range, dif_pos hk']
      rw [hpt]
      obtain ⟨g0, A, c, g1, g2, g3, g4⟩ := Classical.choose_spec (each k hk')
      generalize Classical.choose (each k hk') = q at g0 g1 g2 g4 ⊢
      rw [addr_add, addr_add] at g0 g1
      exact ⟨g0, A, c, g1, g2, g3, g4⟩
end Go.Proofs.Ytjigaoclngfcaaa
