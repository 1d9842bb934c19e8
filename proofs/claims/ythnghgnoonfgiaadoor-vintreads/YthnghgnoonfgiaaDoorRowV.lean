/- What the rows of this seat hand the walks: slices of bytes as lists, the table in memory, a world for the witness. -/
import Derived.Test.YthnghgnoonfgiaaDoorRows
import Derived.Test.YthnghgnoonfgiaaDoorMem2
import Derived.Test.YthnghgnoonfgiaaDoorSumWalk
import Derived.ProofKit
import Derived.OpenShut
import Derived.Below
import Derived.Deep.DeepHandedRow
import Derived.Lib.LaidTab
namespace Go.Proofs.YthnghgnoonfgiaaDoor
open Go.ChangeShapes Go.WideShapes Go.ChangeAt Go.RowKit
set_option maxRecDepth 100000

/-- A slice of integers that came in. -/
def IsRow (k : IntKind) (w : World) (a : Option Addr) (len cap : Nat) (zs : List Int) : Prop :=
  (a = none ∧ len = 0 ∧ cap = 0 ∧ zs = []) ∨
  ∃ x, a = some x ∧ len ≤ cap ∧ cap ≤ maxLen ∧ zs.length = cap ∧ (∀ i, i < zs.length → w.cell? (x.add i) = some (.int k (zs.getD i 0))) ∧ ∀ n ∈ zs, (Lit.int k n).wf = true
theorem IsRow.bs {w : World} {a : Option Addr} {len cap : Nat} {zs : List Int} (h : IsRow .u8 w a len cap zs) : ∃ l : List UInt8, len = l.length ∧ len ≤ cap ∧ cap ≤ maxLen ∧ BS w w.heap.size a l := by
  rcases h with ⟨rfl, rfl, rfl, rfl⟩ | ⟨x, rfl, hl, hm, hz, hc, hw⟩
  · exact ⟨[], rfl, Nat.le_refl _, by decide, BS.nil _ _ _⟩
  · refine ⟨(zs.take len).map fun n => UInt8.ofNat n.toNat, by simp; omega, hl, hm, fun hp => ?_⟩
    have hlen : ((zs.take len).map fun n => UInt8.ofNat n.toNat).length = len := by simp; omega
    rw [hlen] at hp
    obtain ⟨b, o, s⟩ := x
    have h0 := hc 0 (by omega)
    have hs : s = none := by simpa [Addr.add] using World.cell?_spot h0
    subst hs
    refine ⟨b, o, rfl, World.block_lt_of_cell? w _ h0, fun k hk => ?_⟩
    rw [hlen] at hk
    have hk' : k < zs.length := by omega
    have e := hc k hk'
    rw [addr_add] at e
    rw [e]
    have hwf := hw (zs.getD k 0) (by rw [List.getD_eq_getElem?_getD, List.getElem?_eq_getElem hk']; exact List.getElem_mem hk')
    have hr : 0 ≤ zs.getD k 0 ∧ zs.getD k 0 ≤ 255 := by simpa [Lit.wf, IntKind.min, IntKind.max, IntKind.signed, IntKind.bits] using hwf
    unfold at8
    rw [List.getElem?_map, List.getElem?_take_of_lt hk]
    rw [List.getD_eq_getElem?_getD, List.getElem?_eq_getElem hk'] at hr ⊢
    simp only [Option.getD_some, Option.map_some] at hr ⊢
    rw [UInt8.toNat_ofNat']
    congr 2
    omega

theorem gTab : Tryd.prog.globalNamed "catchword/vint.remainders" = some 0 := by kernel_rfl
theorem tab_of {W : World} (h : laidMetH Tryd.prog [("catchword/vint.remainders", Rows.laid_catchword_vint_remainders)] W) : Tab W := fun i hi => by
  have t : Lib.TabIs Tryd.prog W "catchword/vint.remainders" .u32 (tabL.map fun (n : Nat) => (n : Int)) := Lib.tabIs_of_head (rest := []) gTab (show (Tryd.prog.globals[0]?).map (·.type) = some 55 by kernel_rfl) Tryd.underlying55 Tryd.underlying45 (by kernel_rfl) (by kernel_rfl) h
  have := t.cell gTab i (by simpa [tabL] using hi)
  rw [this]
  have : ∀ i : Fin 16, (tabL.map fun (n : Nat) => (n : Int)).getD i.val 0 = ((tabN i.val : Nat) : Int) := by decide +kernel
  rw [← this ⟨i, hi⟩]
/-- A world for the witness: the settled one, the table holding what its initialiser lays. -/
noncomputable def laidWorld (os : Os) : World :=
  { World.holding Tryd.prog os ⟨#[], #[], []⟩ with heap := (World.holding Tryd.prog os ⟨#[], #[], []⟩).heap.modify 0 fun
      | .cells _ t frozen => .cells ((tabL.map fun (n : Nat) => Value.int .u32 (n : Int)).toArray) t frozen
      | o => o }
end Go.Proofs.YthnghgnoonfgiaaDoor
