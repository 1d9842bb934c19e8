/- A region that draws its order, whose callees lay memory of their own and hand back values that do not hang on where: one walk, in the order of the text, over the class of all worlds above a given one. -/
import Derived.Below
import Derived.Deep.QuietTactic
import Derived.BigQuiet
namespace Go.Proofs.Ytafbjadlklcicaa
open Go.RowKit

/-- A world above W0: what lies below block B is as it was. -/
structure WB (B : Nat) (W0 : World) where
  w : World
  ok : Below B W0 w
instance wbNonempty (B : Nat) (W0 : World) : Nonempty (WB B W0) := ⟨⟨W0, Below.refl _ _⟩⟩
theorem wp_region_quietB {P : Program} {id : Nat} {Q : Exit → Act → World → Prop} {a : Act} {w : World} {l : List Oper} (B : Nat) (W0 : World) (hm : P.follows .mixedOrders = true) (hB : Region.lexB .any l.toArray = true) (hw : Below B W0 w)
    (h : wpQuiet P l.toArray (fun w' => ∃ p : WB B W0, w' = p.w) (fun a' => ∀ w', (∃ p : WB B W0, w' = p.w) → Q .normal a' w') l a) : (Code.region id l.toArray true).wp P Q a w :=
  wp_region_quiet (C := fun w' => ∃ p : WB B W0, w' = p.w) hm hB ⟨⟨w.drew, hw.drew⟩, rfl⟩ (by simpa using h)
theorem calls_quietB {P : Program} {f : FuncId} {args : Array Value} {B : Nat} {W0 : World} {p : WB B W0} {v : Value} (h : Calls P f args p.w fun e w' => e = .returned v ∧ Below p.w.heap.size p.w w') (hs : B ≤ W0.heap.size) :
    Calls P f args p.w fun e w'' => e = .returned v ∧ ∃ q : WB B W0, w'' = q.w :=
  h.mono fun _ w' ⟨h1, h2⟩ => ⟨h1, ⟨w', p.ok.trans (h2.mono (Nat.le_trans hs p.ok.size))⟩, rfl⟩
end Go.Proofs.Ytafbjadlklcicaa
