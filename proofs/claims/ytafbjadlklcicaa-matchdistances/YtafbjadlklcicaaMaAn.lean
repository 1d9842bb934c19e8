/- And. -/
import Derived.Test.YtafbjadlklcicaaMaOr
namespace Go.Proofs.Ytafbjadlklcicaa
open Go.RowKit
set_option maxRecDepth 100000

def joinM (x y : Mt) : Mt := (x.1 ++ y.1, x.2 ++ y.2)
def andL (ms ns : List Mt) : List Mt := ms.flatMap fun x => ns.map (joinM x)
theorem andL_snoc (ms ns : List Mt) (x : Mt) : andL (ms ++ [x]) ns = andL ms ns ++ ns.map (joinM x) := by unfold andL; rw [List.flatMap_append]; simp
theorem andL_len : ∀ (ms ns : List Mt), (andL ms ns).length = ms.length * ns.length
  | [], ns => by simp [andL]
  | x :: t, ns => by
    have ih := andL_len t ns
    have e : andL (x :: t) ns = ns.map (joinM x) ++ andL t ns := rfl
    rw [e, List.length_append, List.length_map, ih, List.length_cons, Nat.add_mul]
    omega
/-- A box of two cells, beside a row that grows. -/
structure Bx2 (w : World) (D : Nat) (z0 z1 v : Value) : Prop where
  c0 : w.cell? ⟨D, 0, none⟩ = some z0
  c1 : w.cell? ⟨D, 1, none⟩ = some z1
  ne : v.ownBlock ≠ some D
theorem Bx2.lt {w : World} {D : Nat} {z0 z1 v : Value} (h : Bx2 w D z0 z1 v) : D < w.heap.size := World.block_lt_of_cell? w _ h.c0
theorem Bx2.below {w w' : World} {D : Nat} {z0 z1 v : Value} (h : Bx2 w D z0 z1 v) (hb : Below w.heap.size w w') : Bx2 w' D z0 z1 v := ⟨(hb.cell h.lt).trans h.c0, (hb.cell h.lt).trans h.c1, h.ne⟩
theorem Bx2.grown {w w' : World} {D : Nat} {z0 z1 v v' : Value} (h : Bx2 w D z0 z1 v) (hg : w.grownBy w' v.ownBlock) (hv : v'.ownBlock = v.ownBlock ∨ v'.ownBlock = some w.heap.size) : Bx2 w' D z0 z1 v' := by
  have hb := hg.block D h.lt (fun e => h.ne e.symm)
  refine ⟨?_, ?_, fun e => ?_⟩
  · have := h.c0; simp only [World.cell?, hb] at this ⊢; exact this
  · have := h.c1; simp only [World.cell?, hb] at this ⊢; exact this
  · rcases hv with hv | hv
    · exact h.ne (by rw [← hv]; exact e)
    · rw [hv] at e
      injection e with e
      have := h.lt
      omega
end Go.Proofs.Ytafbjadlklcicaa
