/- formatBits at base 16; strconv.FormatUint at both bases. -/
import Derived.Test.YtbehfhdkdekjfaaDoorXmFx
import Derived.Laws.Bits64b
namespace Go.Proofs.YtbehfhdkdekjfaaDoor
open Go.RowKit Go.Sort
set_option maxRecDepth 100000

/-- The end of a [65]byte at B holds ds. -/
structure Tl (wr : World) (B : Nat) (ds : L8) : Prop where
  cells : ∀ j, j < 65 → ∃ v : Int, wr.cell? ⟨B, j, none⟩ = some (.int .u8 v)
  free : ∀ j, j < 65 → wr.frozen? ⟨B, j, none⟩ = false
  row : ∀ j (h : j < ds.length), wr.cell? ⟨B, 65 - ds.length + j, none⟩ = some (.int .u8 (ds[j].toNat : Int))

theorem Tl.put {wr : World} {B : Nat} {ds : L8} (h : Tl wr B ds) (k : Nat) (hk : k + (ds.length + 1) = 65) (c : UInt8) : Tl (wr.setCell ⟨B, k, none⟩ (.int .u8 (c.toNat : Int))) B (c :: ds) := by
  obtain ⟨v0, hv0⟩ := h.cells k (by omega)
  refine ⟨fun j hj => ?_, fun j hj => (World.frozen?_setCell _ _ _ _).trans (h.free j hj), fun j hj => ?_⟩
  · by_cases e : j = k
    · subst e; exact ⟨_, World.cell?_setCell_same _ _ _ hv0⟩
    · rw [World.cell?_setCell_other _ _ _ _ (by intro q; injection q with _ q; omega)]; exact h.cells j hj
  · cases j with
    | zero =>
      rw [show 65 - (c :: ds).length + 0 = k by simp; omega]
      exact World.cell?_setCell_same _ _ _ hv0
    | succ j =>
      have hj' : j < ds.length := by simpa using hj
      rw [World.cell?_setCell_other _ _ _ _ (by intro q; injection q with _ q; rw [List.length_cons] at q; omega), show 65 - (c :: ds).length + (j + 1) = 65 - ds.length + j by simp; omega]
      simpa using h.row j hj'
theorem and_15 (v : Nat) (h : v < 4294967296) : bits BinOp.and IntKind.u64 (v : Int) 15 = ((v % 16 : Nat) : Int) := by
  have := bits_and_u64_nat v 15 (by omega) (by decide)
  rw [show v &&& 15 = v % 16 from Nat.and_two_pow_sub_one_eq_mod v 4] at this
  exact this
theorem dig16 : ∀ d : Fin 16, (⟨#[48, 49, 50, 51, 52, 53, 54, 55, 56, 57, 97, 98, 99, 100, 101, 102, 103, 104, 105, 106, 107, 108, 109, 110, 111, 112, 113, 114, 115, 116, 117, 118, 119, 120, 121, 122]⟩ : ByteArray)[d.1]'(Nat.lt_trans d.2 (by decide)) = hexC d.1 := by decide
end Go.Proofs.YtbehfhdkdekjfaaDoor
