/- Ordered: what is dropped: a span that crosses one of those within. -/
import Derived.Test.YtafbjadlklcicaaMaIb
import Derived.Laws.EntriesVeiled
import Derived.Shelf.Abstract
namespace Go.Proofs.Ytafbjadlklcicaa
open Go.RowKit
set_option maxRecDepth 100000

set_option maxHeartbeats 2000000 in
theorem ord21_any (E : Nat) (A : Option Addr) (n c : Nat) (l : List Sp) (HN : Hid (n = l.length)) (hn : n ≤ 100000) (s : Sp) (w : World) (hE : w.cell? ⟨E, 0, none⟩ = some (.slice A n c)) (h : CS w w.heap.size A (spCs l)) :
    Calls Try.prog 46 #[spV s, .pointer (some ⟨E, 0, none⟩)] w fun e w' => e = .returned (.bool (l.any (crs s))) ∧ Below w.heap.size w w' := by
  obtain ⟨f, t, p, q⟩ := s
  obtain ⟨X, hX⟩ : ∃ X, w.alloc (.cells #[.int .i64 f, .int .i64 t, .int .i64 p, .int .i64 q] 26) = X := ⟨_, rfl⟩
  have bX : Below w.heap.size w X := by rw [← hX]; exact (Below.refl _ _).alloc (Nat.le_refl _) _
  have HS : Hid (FnB 48 (f, t, p, q) (crs (f, t, p, q)) X) := ⟨enters_of Try.func48 (by kernel_rfl) rfl, fun W _ s => crs_any (f, t, p, q) s W⟩
  have KC := Lib.hid (scontainsB_any 48 (f, t, p, q) (crs (f, t, p, q)) A n c l HN hn X ((h.below bX).more bX.size) HS)
  have hc : X.cell? ⟨E, 0, none⟩ = some (.slice A n c) := (bX.cell (World.block_lt_of_cell? w _ hE)).trans hE
  have z : ∀ j u, [Value.int .i64 f, .int .i64 t, .int .i64 p, .int .i64 q][j]? = some u → X.cell? ⟨w.heap.size, j, none⟩ = some u := fun j u hu => by
    have := new_cells w #[.int .i64 f, .int .i64 t, .int .i64 p, .int .i64 q] 26 (0, 0) j u hu
    rw [add_addr, hX, Nat.zero_add] at this
    exact this
  have z0 := z 0 _ rfl
  have z1 := z 1 _ rfl
  have z2 := z 2 _ rfl
  have z3 := z 3 _ rfl
  have HX := Lib.hid hX
  have HBX := Lib.hid bX
  clear h hE hX bX z HS
  unfold spV at KC ⊢
  obtain ⟨r, hr⟩ : ∃ r, r = l.any (crs (f, t, p, q)) := ⟨_, rfl⟩
  rw [← hr] at KC ⊢
  clear hr
  simp only at KC ⊢
  go_enter Try.func46, Try.ntmps46
  go_upto_region 1 with fail
  rw [HX.out]
  go_wp2_with fail
  with_reducible refine KC.out.mono ?_
  rintro e w5 ⟨rfl, b5⟩
  have HB5 := Lib.hid (HBX.out.trans (b5.mono HBX.out.size))
  clear b5 KC hc z0 z1 z2 z3
  go_wp2_with fail
  go_ret
  exact ⟨rfl, HB5.out⟩
theorem ord2_any (A : Option Addr) (n c : Nat) (w : World) :
    Calls Try.prog 45 #[.slice A n c] w fun e w' => e = .returned (.func (.func 46) #[] #[.pointer (some ⟨w.heap.size, 0, none⟩)]) ∧ w'.cell? ⟨w.heap.size, 0, none⟩ = some (.slice A n c) ∧ Below w.heap.size w w' := by
  go_enter Try.func45, Try.ntmps45
  go_wp2_with fail
  go_ret
  exact ⟨rfl, by simp, (Below.refl _ _).alloc (Nat.le_refl _) _⟩
end Go.Proofs.Ytafbjadlklcicaa
