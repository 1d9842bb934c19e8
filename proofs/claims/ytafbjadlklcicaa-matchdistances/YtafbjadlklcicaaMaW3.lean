/- Window, Same: whole. -/
import Derived.Test.YtafbjadlklcicaaMaW2
import Derived.Laws.EntriesVeiled
namespace Go.Proofs.Ytafbjadlklcicaa
open Go.RowKit Go.Shelf
set_option maxRecDepth 100000

theorem new_at (w : World) (cs : Array Value) (t : TypeId) (j : Nat) (u : Value) (h : cs[j]? = some u) : (w.alloc (.cells cs t)).cell? ⟨w.heap.size, j, none⟩ = some u := by
  have := new_cells w cs t (0, 0) j u (by simpa using h)
  rw [add_addr, Nat.zero_add] at this
  exact this
theorem old_at (w : World) (o : Obj) (a : Addr) (u : Value) (h : w.cell? a = some u) : (w.alloc o).cell? a = some u := Lib.cell?_alloc_some o h
/-- What Window and Same leave. -/
def winL (u : Int) (ss ps : List Int) (n : Int) (ms : List Mt) : List Mt := (thruL (winP u ss ps n) ms).map (dropM (winQ u ss ps n))
set_option maxHeartbeats 4000000 in
theorem window_any (f t u nn : Int) (A1 : Option Addr) (n1 c1 : Nat) (A2 : Option Addr) (n2 c2 : Nat) (ss ps : List Int) (hu : u = 0 ∨ u = 1 ∨ u = 2) (A : Option Addr) (n c : Nat) (ms : List Mt) (HN : Hid (n = ms.length)) (hn : n ≤ 10000) (HSM : Hid (smM ms)) (w : World) (hT : Tx w A1 n1 c1 A2 n2 c2 ss ps) (h : MS w w.heap.size A ms) :
    Calls Try.prog 25 #[txV f t A1 n1 c1 A2 n2 c2, .slice A n c, .int .i64 nn, .int .i64 u] w fun e w' => ∃ v zs, e = .returned v ∧ MO w w' v zs (winL u ss ps nn ms) := by
  obtain ⟨X, hX⟩ : ∃ X, (((w.alloc (.cells #[.int .i64 f, .int .i64 t, .slice A1 n1 c1, .slice A2 n2 c2] 38)).alloc (.cells #[.int .i64 nn] 3)).alloc (.cells #[.int .i64 u] 39)).alloc (.cells #[fnV (w.heap.size + 1) w.heap.size (w.heap.size + 2)] 31) = X := ⟨_, rfl⟩
  have bX : Below w.heap.size w X := by rw [← hX]; exact ((((Below.refl _ _).alloc (Nat.le_refl _) _).alloc (by simp only [World.size_alloc]; omega) _).alloc (by simp only [World.size_alloc]; omega) _).alloc (by simp only [World.size_alloc]; omega) _
  have hf : X.cell? ⟨w.heap.size + 3, 0, none⟩ = some (fnV (w.heap.size + 1) w.heap.size (w.heap.size + 2)) := by
    rw [← hX]
    have h := new_at (((w.alloc (.cells #[.int .i64 f, .int .i64 t, .slice A1 n1 c1, .slice A2 n2 c2] 38)).alloc (.cells #[.int .i64 nn] 3)).alloc (.cells #[.int .i64 u] 39)) #[fnV (w.heap.size + 1) w.heap.size (w.heap.size + 2)] 31 0 _ rfl
    simp only [World.size_alloc] at h
    exact h
  have hC : WC X (w.heap.size + 1) w.heap.size (w.heap.size + 2) nn f t u A1 n1 c1 A2 n2 c2 ss ps := by
    have a : ∀ j v, (#[.int .i64 f, .int .i64 t, .slice A1 n1 c1, .slice A2 n2 c2] : Array Value)[j]? = some v → X.cell? ⟨w.heap.size, j, none⟩ = some v := fun j v h => by
      rw [← hX]
      exact old_at _ _ _ _ (old_at _ _ _ _ (old_at _ _ _ _ (new_at w _ _ j v h)))
    refine ⟨?_, ?_, a 0 _ rfl, a 1 _ rfl, a 2 _ rfl, a 3 _ rfl, hT.up bX, hu⟩
    · rw [← hX]
      have h := new_at (w.alloc (.cells #[.int .i64 f, .int .i64 t, .slice A1 n1 c1, .slice A2 n2 c2] 38)) #[.int .i64 nn] 3 0 _ rfl
      simp only [World.size_alloc] at h
      exact old_at _ _ _ _ (old_at _ _ _ _ h)
    · rw [← hX]
      have h := new_at ((w.alloc (.cells #[.int .i64 f, .int .i64 t, .slice A1 n1 c1, .slice A2 n2 c2] 38)).alloc (.cells #[.int .i64 nn] 3)) #[.int .i64 u] 39 0 _ rfl
      simp only [World.size_alloc] at h
      exact old_at _ _ _ _ h
  have HTH := Lib.hid (through_own 50 #[.pointer (some ⟨w.heap.size + 1, 0, none⟩), .pointer (some ⟨w.heap.size, 0, none⟩), .pointer (some ⟨w.heap.size + 2, 0, none⟩)] (winP u ss ps nn) A n c ms HN hn HSM 20000 (fun m hm => (HSM.out m hm).1) X (h.up bX) ⟨enters_of Try.func50 (by kernel_rfl) rfl, fun W hW v l hv hl => fits_any _ _ _ nn f t u A1 n1 c1 A2 n2 c2 ss ps v l (by omega) W (hC.kept (Kept.of hW)) hv⟩)
  have HWX := Lib.hid (winX (w.heap.size + 3) (w.heap.size + 1) w.heap.size (w.heap.size + 2) nn f t u A1 n1 c1 A2 n2 c2 ss ps X hf hC)
  obtain ⟨L, hL⟩ : ∃ L, L = thruL (winP u ss ps nn) ms := ⟨_, rfl⟩
  have HLs : Hid (L.length ≤ 10000 ∧ ∀ m ∈ L, m.1.length ≤ 20000 ∧ m.2.length ≤ 100000) := by
    rw [hL]
    refine ⟨Nat.le_trans (List.length_filter_le _ _) (by rw [← HN.out]; exact hn), fun m hm => ?_⟩
    have := HSM.out m (List.mem_filter.1 hm).1
    omega
  have HBM : Hid (∀ w' v zs ms', MO X w' v zs ms' → MO w w' v zs ms') := fun w' v zs ms' h => ⟨own_le h.own bX.size, h.len, fun k h1 h2 => ⟨own_le (h.rows k h1 h2).1 bX.size, own_le (h.rows k h1 h2).2 bX.size⟩, h.sep, bX.trans (h.kb.mono bX.size)⟩
  unfold winL
  rw [← hL] at HTH ⊢
  have HX := Lib.hid hX
  unfold fnV at hf HX
  clear h hL hX bX hC hT
  unfold txV
  go_enter Try.func25, Try.ntmps25
  go_upto_region 2 with fail
  rw [HX.out]
  go_wp2_with fail
  with_reducible refine HTH.out.mono ?_
  rintro e w1 ⟨v, zs, rfl, hm⟩
  obtain ⟨D1, d1, rfl, _, _, _⟩ := hm.out
  have KD := Lib.hid (drop_any 52 #[.pointer (some ⟨w.heap.size + 3, 0, none⟩)] (winQ u ss ps nn) 20000 X D1 L.length d1 zs L rfl (by have := HLs.out.1; omega) HLs.out.2 w1 hm HWX.out)
  clear hm HTH hf
  obtain ⟨N, hN⟩ : ∃ N, N = L.length := ⟨_, rfl⟩
  rw [← hN] at KD ⊢
  clear hN
  go_wp2_with fail
  with_reducible refine KD.out.mono ?_
  rintro e w2 ⟨rfl, zs', hm2⟩
  have HM2 := Lib.hid (HBM.out _ _ _ _ hm2)
  clear hm2 KD
  go_wp2_with fail
  go_ret
  exact ⟨_, _, rfl, HM2.out⟩
set_option maxHeartbeats 1000000 in
theorem tsame_any (f t u : Int) (A1 : Option Addr) (n1 c1 : Nat) (A2 : Option Addr) (n2 c2 : Nat) (ss ps : List Int) (hu : u = 0 ∨ u = 1 ∨ u = 2) (A : Option Addr) (n c : Nat) (ms : List Mt) (HN : Hid (n = ms.length)) (hn : n ≤ 10000) (HSM : Hid (smM ms)) (w : World) (hT : Tx w A1 n1 c1 A2 n2 c2 ss ps) (h : MS w w.heap.size A ms) :
    Calls Try.prog 26 #[txV f t A1 n1 c1 A2 n2 c2, .slice A n c, .int .i64 u] w fun e w' => ∃ v zs, e = .returned v ∧ MO w w' v zs (winL u ss ps 1 ms) := by
  obtain ⟨X, hX⟩ : ∃ X, w.alloc (.cells #[.int .i64 f, .int .i64 t, .slice A1 n1 c1, .slice A2 n2 c2] 38) = X := ⟨_, rfl⟩
  have bX : Below w.heap.size w X := by rw [← hX]; exact (Below.refl _ _).alloc (Nat.le_refl _) _
  have KW := Lib.hid (window_any f t u 1 A1 n1 c1 A2 n2 c2 ss ps hu A n c ms HN hn HSM X (hT.up bX) (h.up bX))
  have HBM : Hid (∀ w' v zs ms', MO X w' v zs ms' → MO w w' v zs ms') := fun w' v zs ms' h => ⟨own_le h.own bX.size, h.len, fun k h1 h2 => ⟨own_le (h.rows k h1 h2).1 bX.size, own_le (h.rows k h1 h2).2 bX.size⟩, h.sep, bX.trans (h.kb.mono bX.size)⟩
  have HX := Lib.hid hX
  clear hX bX h hT
  unfold txV at KW ⊢
  go_enter Try.func26, Try.ntmps26
  go_wp2_with fail
  rw [HX.out]
  with_reducible refine KW.out.mono ?_
  rintro e w2 ⟨v, zs', rfl, hm2⟩
  have HM2 := Lib.hid (HBM.out _ _ _ _ hm2)
  clear hm2 KW
  go_wp2_with fail
  go_ret
  exact ⟨_, _, rfl, HM2.out⟩
end Go.Proofs.Ytafbjadlklcicaa
