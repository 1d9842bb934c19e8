/- The laws' head (the document's examples): it answers true. -/
import Derived.Test.YthnghgnoonfgiaaDoorPutWalk
import Derived.Test.YthnghgnoonfgiaaDoorSumWalk
import Derived.Lib.SlBytesConst
import Derived.WalkKit
import Derived.WalkSpells
import Derived.Outline
import Derived.Lib.Hide
namespace Go.Proofs.YthnghgnoonfgiaaDoor
open Go.RowKit
set_option maxRecDepth 100000

/-- The nine digits' row, marked as a text's. -/
theorem digits_row (w : World) (C : Array Value) (hC : C = #[.int .u8 49, .int .u8 50, .int .u8 51, .int .u8 52, .int .u8 53, .int .u8 54, .int .u8 55, .int .u8 56, .int .u8 57]) (t : TypeId) (fr : Nat × Nat) :
    BS (w.alloc (.cells C t fr)) (w.heap.size + 1) (some ⟨w.heap.size, 0, none⟩) [49, 50, 51, 52, 53, 54, 55, 56, 57] := fun _ => by
  refine ⟨w.heap.size, 0, rfl, by omega, fun k hk => ?_⟩
  rw [Nat.zero_add, World.cell?_alloc_mark, hC]
  have : ∀ k : Fin 9, (#[Value.int .u8 49, .int .u8 50, .int .u8 51, .int .u8 52, .int .u8 53, .int .u8 54, .int .u8 55, .int .u8 56, .int .u8 57] : Array Value)[k.val]? = some (.int .u8 (at8 [49, 50, 51, 52, 53, 54, 55, 56, 57] k.val)) := fun k => by
    rcases k with ⟨k, hk⟩
    match k, hk with
    | 0, _ => rfl
    | 1, _ => rfl
    | 2, _ => rfl
    | 3, _ => rfl
    | 4, _ => rfl
    | 5, _ => rfl
    | 6, _ => rfl
    | 7, _ => rfl
    | 8, _ => rfl
  exact this ⟨k, hk⟩

set_option maxHeartbeats 1000000 in
theorem head_any (w : World) (hT : Tab w) : Calls Tryd.prog 9 #[] w fun e w' => e = .returned (.bool true) ∧ Below w.heap.size w w' := by
  have kc := fun (w : World) (C : Array Value) (n c : Nat) => Lib.run_convert_bytes_const (P := Tryd.prog) w 22 5 C n c Tryd.underlying22 Tryd.underlying5
  go_enter Tryd.func9, Tryd.ntmps9
  go_wp2_with fail
  refine (put_any (.slice none 0 0) [] w.heap.size 300 (by decide) w (Own8.nil _ _ _) (Nat.le_refl _) (by decide)).mono ?_
  rintro e w1 ⟨v1, rfl, hown1, hg1, _⟩
  have hb1 : Below w.heap.size w w1 := below_of_grown hg1 (fun k hk => by simp [Value.ownBlock] at hk)
  have hT1 := hT.below' hb1
  rw [enc_300] at hown1
  obtain ⟨A1, c1, rfl, _, _, hbs1, _⟩ := hown1.form
  have hconv : (convert 22 9 (.slice A1 2 c1)).run Tryd.prog w1 = .ok (.string ⟨#[130, 44]⟩) w1 := hbs1.conv 2 c1 rfl
  clear hT hg1 hown1 hbs1
  go_wp2_with fail
  refine (sum_any (some ⟨w1.heap.size, 0, none⟩) 9 9 [49, 50, 51, 52, 53, 54, 55, 56, 57] (w1.heap.size + 1) _ rfl (by decide) (hT1.below' ((Below.refl _ _).alloc (Nat.le_refl _) _)) (digits_row w1 _ rfl 5 (9, 10))).mono ?_
  rintro e w2 ⟨rfl, rfl⟩
  have hcd := crcN_digits
  go_wp2_with fail
  go_ret
  exact ⟨rfl, hb1.alloc hb1.size _⟩
end Go.Proofs.YthnghgnoonfgiaaDoor
