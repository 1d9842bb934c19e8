/- formatBits at base 16. -/
import Derived.Test.YtbehfhdkdekjfaaDoorXmFb
namespace Go.Proofs.YtbehfhdkdekjfaaDoor
open Go.RowKit Go.Sort
set_option maxRecDepth 100000

theorem z65 (i : Nat) (h : i < 65) : Tryd.zeroCells97[i]? = some (.int .u8 0) := by
  have e : Tryd.zeroCells97 = Array.replicate 65 (.int .u8 0) := by kernel_rfl
  rw [e, Array.getElem?_replicate, if_pos h]
set_option maxHeartbeats 6400000 in
theorem fbits16 (u : Nat) (hu : u < 4294967296) (w : World) (hT : w.cell? ⟨4, 15, none⟩ = some (.int .u8 4)) :
    Calls Tryd.prog 44 #[.slice none 0 0, .int .u64 u, .int .i64 16, .bool false, .bool false] w fun e w' => e = .returned (.tuple #[.slice none 0 0, .string (strOf (hexD 7 u))]) ∧ Below w.heap.size w w' := by
  have h4 := World.block_lt_of_cell? w _ hT
  have HT := Lib.hid hT
  clear hT
  go_enter Tryd.func44, Tryd.ntmps44
  go_wp2_with fail
  go_at_call 66
  refine (ispow16 _).mono ?_
  rintro e w' ⟨rfl, rfl⟩
  go_wp2_with fail
  go_at_call 67
  refine (tz_16 _ (HT.out ▸ (Below.heap_alloc w _ 4 h4 |> fun e => World.cell?_of_block (a := ⟨4, 15, none⟩) e))).mono ?_
  rintro e w' ⟨rfl, rfl⟩
  go_wp2_with fail
  go_loopg [1, 13] 8 (fun gg uv iv wr => ∃ (v k f : Nat) (ds : L8), uv = .int .u64 v ∧ iv = .int .i64 k ∧ k + ds.length = 65 ∧ f + ds.length = 7 ∧ f < gg ∧ v < 4294967296 ∧ Hid (v < 16 ^ (f + 1)) ∧ Hid (hexD f v ++ ds = hexD 7 u) ∧ Hid (Tl wr w.heap.size ds) ∧ Hid (Below w.heap.size w wr))
  case atStart => exact ⟨u, 65, 7, [], rfl, rfl, rfl, rfl, by omega, hu, hu, by simp [Hid], ⟨fun j hj => ⟨0, by rw [World.cell?_alloc_new]; exact z65 j hj⟩, fun j hj => World.frozen?_alloc_new _ _ _ _, fun j hj => absurd hj (Nat.not_lt_zero j)⟩, (Below.refl _ w).alloc (Nat.le_refl _) _⟩
  case round =>
    obtain ⟨v, k, f, ds, rfl, rfl, hk, hf, hg, hv, HV, HX, HTl, HB⟩ := hrel
    by_cases h16 : 16 ≤ v
    · have hand : bits BinOp.and IntKind.u64 (v : Int) 15 = ((v % 16 : Nat) : Int) := and_15 v hv
      have hm : v % 16 < 16 := by omega
      obtain ⟨c0, hc0⟩ := HTl.out.cells (k - 1) (by omega)
      have hf0 := HTl.out.free (k - 1) (by omega)
      have hkk : (k : Int) - 1 = ((k - 1 : Nat) : Int) := by omega
      obtain ⟨f, rfl⟩ : ∃ f', f = f' + 1 := ⟨f - 1, by have := HV.out; rcases f with _ | f <;> omega⟩
      have HX2 : Hid (hexD f (v / 16) ++ hexC (v % 16) :: ds = hexD 7 u) := by
        show _ = _
        rw [← HX.out, hexD_great f v (by omega)]
        simp
      have HV2 : Hid (v / 16 < 16 ^ (f + 1)) := by
        show _ < _
        have := HV.out
        rw [Nat.pow_succ] at this
        exact Nat.div_lt_of_lt_mul (by omega)
      have HP := Lib.hid (HTl.out.put (k - 1) (by omega) (hexC (v % 16)))
      have HB2 := Lib.hid (HB.out.setCell (p := ⟨w.heap.size, k - 1, none⟩) (Nat.le_refl _) (.int .u8 ((hexC (v % 16)).toNat : Int)))
      have HD := Lib.hid (dig16 ⟨v % 16, hm⟩)
      have hk1 : k - 1 + (ds.length + 1) = 65 := by omega
      clear HX HV HTl HB
      generalize v % 16 = d at *
      generalize k - 1 = k1 at *
      go_wp2_with fail
      go_roundg (f + 1)
      case rel =>
        have e := congrArg (fun c : UInt8 => (c.toNat : Int)) HD.out
        refine ⟨v / 16, k1, f, hexC d :: ds, by go_num, by go_num, hk1, by simp; omega, by omega, by omega, HV2, HX2, ?_, ?_⟩
        · have h := HP.out
          rw [← e] at h
          exact h
        · have h := HB2.out
          rw [← e] at h
          exact h
      case measure => omega
    · have hx : v < 16 := by omega
      have HX2 : Hid (hexC v :: ds = hexD 7 u) := by show _ = _; rw [← HX.out, hexD_small f v hx]; rfl
      obtain ⟨c0, hc0⟩ := HTl.out.cells (k - 1) (by omega)
      have hf0 := HTl.out.free (k - 1) (by omega)
      have hkk : (k : Int) - 1 = ((k - 1 : Nat) : Int) := by omega
      have HP := Lib.hid (HTl.out.put (k - 1) (by omega) (hexC v))
      have HB2 := Lib.hid (HB.out.setCell (p := ⟨w.heap.size, k - 1, none⟩) (Nat.le_refl _) (.int .u8 ((hexC v).toNat : Int)))
      have hdig := dig16 ⟨v, hx⟩
      simp only at hdig
      have hk1 : k - 1 + (ds.length + 1) = 65 := by omega
      clear HX HV HTl HB
      generalize k - 1 = k1 at *
      have hal : Tryd.prog.arrayLen 97 = 65 := by simp [Program.arrayLen, Tryd.underlying97]
      have hsl : ∀ W, (Instr.sliceAt 97 (.pointer (some ⟨w.heap.size, 0, none⟩)) (some (.int .i64 (k1 : Int))) none none).run Tryd.prog W = .ok (.slice (some ⟨w.heap.size, k1, none⟩) (ds.length + 1) (65 - k1)) W := fun W => by
        rw [run_sliceAt_array_l W 97 ⟨w.heap.size, 0, none⟩ (by simp [Program.arrayLen, Program.elem, Tryd.underlying97]) .i64 (k1 : Int) (by omega) (by rw [hal]; omega)]
        go_simp
        omega
      have hcv : ∀ W, Tl W w.heap.size (hexC v :: ds) → (convert 37 9 (.slice (some ⟨w.heap.size, k1, none⟩) (ds.length + 1) (65 - k1))).run Tryd.prog W = .ok (.string (strOf (hexC v :: ds))) W := fun W hW => by
        have h := run_convert_bytes_back (P := Tryd.prog) W 37 9 5 ⟨w.heap.size, k1, none⟩ (65 - k1) (hexC v :: ds) Tryd.underlying37 Tryd.underlying5 Tryd.underlying9 (fun j hj => by
          rw [Lib.add_plain]
          have := hW.row j hj
          rw [List.length_cons, show 65 - (ds.length + 1) + j = k1 + j by omega] at this
          exact this)
        rw [List.length_cons] at h
        exact h
      have hcv2 := hcv _ HP.out
      clear hcv hal
      go_wp2_with fail
      go_ret2
      rw [HX2.out]
      exact ⟨rfl, HB2.out⟩
end Go.Proofs.YtbehfhdkdekjfaaDoor
