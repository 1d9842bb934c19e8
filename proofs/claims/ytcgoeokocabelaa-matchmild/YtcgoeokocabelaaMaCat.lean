/- slices.Concat of two slices of spans, of two of matches. -/
import Derived.Test.YtcgoeokocabelaaMaMem
import Derived.Test.YtcgoeokocabelaaGrow
namespace Go.Proofs.Ytcgoeokocabelaa
open Go.RowKit
set_option maxRecDepth 100000

theorem grow_S (N : Nat) (hN : N ≤ 100000) (w : World) :
    Calls Try.prog 110 #[.slice none 0 0, .int .i64 (N : Int)] w fun e w' => ∃ v, e = .returned v ∧ w'.ownsRow w.heap.size 38 4 v 0 [] ∧ Below w.heap.size w w' := by
  rcases Nat.eq_zero_or_pos N with h0 | h0
  · subst h0
    refine (Any8.slices_Grow_room Try.growS none 0 0 0 w (Nat.le_refl _) (by decide) (by decide) (Nat.le_refl _)).mono ?_
    rintro e w' ⟨rfl, rfl⟩
    exact ⟨_, rfl, ⟨by simp, .inl ⟨rfl, rfl⟩⟩, Below.refl _ _⟩
  · obtain ⟨i0, hi0, hz0, hz1, hz2⟩ := info_parts elSp.hi
    refine (Any8.slices_Grow_grow Try.growS i0 _ hi0 hz0 (by omega) none 0 0 N [] w (Nat.le_refl _) (by omega) (by rw [hz2]; omega) (by omega) (by simp) (fun _ => rfl) (fun a h => by cases h)).mono ?_
    rintro e w' ⟨rfl, rfl⟩
    have hg : N ≤ grownCap w (0 + N) 0 (Try.growS_ren.t 25) := by have := grownCap_ge w (0 + N) 0 (Try.growS_ren.t 25); omega
    have hm := grownCap_le_maxLen w (0 + N) 0 (Try.growS_ren.t 25) (by unfold maxLen; omega)
    obtain ⟨G, hG⟩ : ∃ G, G = grownCap w (0 + N) 0 (Try.growS_ren.t 25) := ⟨_, rfl⟩
    rw [← hG] at hg hm ⊢
    refine ⟨.slice (some ⟨w.heap.size, 0, none⟩) 0 G, rfl, ⟨rfl, .inr ⟨w.heap.size, G, _, rfl, Nat.le_refl _, heap_alloc_new w.drew _, Nat.zero_le _, hm, ?_, rfl⟩⟩, ((Below.refl _ _).drew).alloc (Nat.le_refl _) _⟩
    simp only [Array.size_append, size_zeroCells, List.size_toArray, List.length_nil]
    simp only [Value.cells, List.size_toArray, List.length_cons, List.length_nil]
    omega
set_option maxHeartbeats 2000000 in
theorem concat_S (b : Nat) (A1 A2 : Option Addr) (n1 c1 n2 c2 B N : Nat) (xs1 xs2 : List Value) (HN : Hid (n1 + n2 = N)) (H1 : Hid (xs1.length = n1 * 4 ∧ ∀ u ∈ xs1, u.oneCell' = true)) (H2 : Hid (xs2.length = n2 * 4 ∧ ∀ u ∈ xs2, u.oneCell' = true)) (hn1 : n1 ≤ 40000) (hn2 : n2 ≤ 40000) (w : World)
    (y1 : w.cell? ⟨b, 0, none⟩ = some (.slice A1 n1 c1)) (y2 : w.cell? ⟨b, 1, none⟩ = some (.slice A2 n2 c2)) (hB : B ≤ w.heap.size) (h1 : CS w B A1 xs1) (h2 : CS w B A2 xs2) :
    Calls Try.prog 89 #[.slice (some ⟨b, 0, none⟩) 2 2] w fun e w' => ∃ v, e = .returned v ∧ w'.ownsRow w.heap.size 38 4 v N (xs1 ++ xs2) ∧ Below w.heap.size w w' := by
  have hlb := World.block_lt_of_cell? w _ y1
  have HY : Hid (∀ W, Below w.heap.size w W → W.cell? ⟨b, 0, none⟩ = some (.slice A1 n1 c1) ∧ W.cell? ⟨b, 1, none⟩ = some (.slice A2 n2 c2)) := fun W hb => ⟨(hb.cell (p := ⟨b, 0, none⟩) hlb).trans y1, (hb.cell (p := ⟨b, 1, none⟩) hlb).trans y2⟩
  have HC1 := Lib.hid (h1.more hB)
  have HC2 := Lib.hid (h2.more hB)
  have hNl : N ≤ 80000 := by have := HN.out; omega
  have KG := Lib.hid (grow_S N (by omega) w)
  have w1 : IntKind.i64.wrap (n1 : Int) = (n1 : Int) := by rw [IntKind.wrap_i64]; omega
  have w2 : IntKind.i64.wrap ((n1 : Int) + (n2 : Int)) = (N : Int) := by have := HN.out; rw [IntKind.wrap_i64]; omega
  have g1 : ¬ (n1 : Int) < 0 := by omega
  have g2 : ¬ (N : Int) < 0 := by omega
  clear hlb h1 h2
  go_enter Try.func89, Try.ntmps89
  go_wp2_with fail
  go_loopw [3, 11] (fun s3 i wr => Hid (wr = w) ∧ ((i = .int .i64 0 ∧ s3 = .int .i64 0) ∨ (i = .int .i64 1 ∧ s3 = .int .i64 n1) ∨ (i = .int .i64 2 ∧ s3 = .int .i64 N))) (fun _ i _ => 2 - (intOf i).toNat)
  case atStart => exact ⟨rfl, .inl ⟨rfl, rfl⟩⟩
  case round =>
    obtain ⟨HW, ⟨rfl, rfl⟩ | ⟨rfl, rfl⟩ | ⟨rfl, rfl⟩⟩ := hrel
    · have e0 : w = wr := HW.out.symm
      subst e0
      go_wp2_with fail
      exact ⟨⟨by first | exact rfl | exact trivial, .inr (.inl ⟨by first | rfl | trivial, by first | rfl | trivial⟩)⟩, by simp [intOf]⟩
    · have e0 : w = wr := HW.out.symm
      subst e0
      go_wp2_with fail
      exact ⟨⟨by first | exact rfl | exact trivial, .inr (.inr ⟨by first | rfl | trivial, by first | rfl | trivial⟩)⟩, by simp [intOf]⟩
    · have e0 : w = wr := HW.out.symm
      subst e0
      go_wp2_with fail
      with_reducible refine KG.out.mono ?_
      rintro e w3 ⟨v, rfl, hown, b3⟩
      have HO := Lib.hid hown
      have HB3 := Lib.hid b3
      clear hown b3 KG
      go_wp2_with fail
      go_loopw [6, 27] (fun s6 i wq => Below w.heap.size w wq ∧ ((i = .int .i64 0 ∧ Hid (wq.ownsRow w.heap.size 38 4 s6 0 [])) ∨ (i = .int .i64 1 ∧ Hid (wq.ownsRow w.heap.size 38 4 s6 n1 xs1)) ∨ (i = .int .i64 2 ∧ Hid (wq.ownsRow w.heap.size 38 4 s6 N (xs1 ++ xs2))))) (fun _ i _ => 2 - (intOf i).toNat)
      case atStart => exact ⟨HB3.out, .inl ⟨rfl, HO⟩⟩
      case round =>
        obtain ⟨hb, ⟨rfl, HQ⟩ | ⟨rfl, HQ⟩ | ⟨rfl, HQ⟩⟩ := hrel
        · obtain ⟨z1, z2⟩ := HY.out wr hb
          have HB := Lib.hid hb
          have CC := Lib.hid (HC1.out.below hb)
          have hsz := hb.size
          clear hb
          go_wp2_with (at_builtin; (refine wpList_appR elSp wr rfl (.tmp 31) (.tmp 32) rfl w.heap.size _ 0 [] rfl HQ.out A1 n1 c1 w.heap.size xs1 rfl H1.out.1 H1.out.2 CC.out n1 (by omega) (by omega) hsz ?_; intro v4 w4 hown4 hg4 _; have H4 := Lib.hid (And.intro hown4 (own_grow HQ.out (Nat.le_refl _) HB.out hsz hg4)); clear hown4 hg4))
          exact ⟨⟨H4.out.2, .inr (.inl ⟨by first | rfl | trivial, H4.out.1⟩)⟩, by simp [intOf]⟩
        · obtain ⟨z1, z2⟩ := HY.out wr hb
          have HB := Lib.hid hb
          have CC := Lib.hid (HC2.out.below hb)
          have hsz := hb.size
          clear hb
          go_wp2_with (at_builtin; (refine wpList_appR elSp wr rfl (.tmp 31) (.tmp 32) rfl w.heap.size _ n1 xs1 rfl HQ.out A2 n2 c2 w.heap.size xs2 rfl H2.out.1 H2.out.2 CC.out N HN.out (by omega) hsz ?_; intro v4 w4 hown4 hg4 _; have H4 := Lib.hid (And.intro hown4 (own_grow HQ.out (Nat.le_refl _) HB.out hsz hg4)); clear hown4 hg4))
          exact ⟨⟨H4.out.2, .inr (.inr ⟨by first | rfl | trivial, H4.out.1⟩)⟩, by simp [intOf]⟩
        · have HB := Lib.hid hb
          go_wp2_with fail
          go_ret
          exact ⟨_, rfl, HQ.out, HB.out⟩
theorem grow_M (N : Nat) (hN : N ≤ 100000) (w : World) :
    Calls Try.prog 87 #[.slice none 0 0, .int .i64 (N : Int)] w fun e w' => ∃ v, e = .returned v ∧ w'.ownsRow w.heap.size 34 2 v 0 [] ∧ Below w.heap.size w w' := by
  rcases Nat.eq_zero_or_pos N with h0 | h0
  · subst h0
    refine (Any8.slices_Grow_room Try.growM none 0 0 0 w (Nat.le_refl _) (by decide) (by decide) (Nat.le_refl _)).mono ?_
    rintro e w' ⟨rfl, rfl⟩
    exact ⟨_, rfl, ⟨by simp, .inl ⟨rfl, rfl⟩⟩, Below.refl _ _⟩
  · obtain ⟨i0, hi0, hz0, hz1, hz2⟩ := info_parts elMt.hi
    refine (Any8.slices_Grow_grow Try.growM i0 _ hi0 hz0 (by omega) none 0 0 N [] w (Nat.le_refl _) (by omega) (by rw [hz2]; omega) (by omega) (by simp) (fun _ => rfl) (fun a h => by cases h)).mono ?_
    rintro e w' ⟨rfl, rfl⟩
    have hg : N ≤ grownCap w (0 + N) 0 (Try.growM_ren.t 25) := by have := grownCap_ge w (0 + N) 0 (Try.growM_ren.t 25); omega
    have hm := grownCap_le_maxLen w (0 + N) 0 (Try.growM_ren.t 25) (by unfold maxLen; omega)
    obtain ⟨G, hG⟩ : ∃ G, G = grownCap w (0 + N) 0 (Try.growM_ren.t 25) := ⟨_, rfl⟩
    rw [← hG] at hg hm ⊢
    refine ⟨.slice (some ⟨w.heap.size, 0, none⟩) 0 G, rfl, ⟨rfl, .inr ⟨w.heap.size, G, _, rfl, Nat.le_refl _, heap_alloc_new w.drew _, Nat.zero_le _, hm, ?_, rfl⟩⟩, ((Below.refl _ _).drew).alloc (Nat.le_refl _) _⟩
    simp only [Array.size_append, size_zeroCells, List.size_toArray, List.length_nil]
    simp only [Value.cells, List.size_toArray, List.length_cons, List.length_nil]
    omega
set_option maxHeartbeats 2000000 in
theorem concat_M (b : Nat) (A1 A2 : Option Addr) (n1 c1 n2 c2 B N : Nat) (xs1 xs2 : List Value) (HN : Hid (n1 + n2 = N)) (H1 : Hid (xs1.length = n1 * 2 ∧ ∀ u ∈ xs1, u.oneCell' = true)) (H2 : Hid (xs2.length = n2 * 2 ∧ ∀ u ∈ xs2, u.oneCell' = true)) (hn1 : n1 ≤ 40000) (hn2 : n2 ≤ 40000) (w : World)
    (y1 : w.cell? ⟨b, 0, none⟩ = some (.slice A1 n1 c1)) (y2 : w.cell? ⟨b, 1, none⟩ = some (.slice A2 n2 c2)) (hB : B ≤ w.heap.size) (h1 : CS w B A1 xs1) (h2 : CS w B A2 xs2) :
    Calls Try.prog 49 #[.slice (some ⟨b, 0, none⟩) 2 2] w fun e w' => ∃ v, e = .returned v ∧ w'.ownsRow w.heap.size 34 2 v N (xs1 ++ xs2) ∧ Below w.heap.size w w' := by
  have hlb := World.block_lt_of_cell? w _ y1
  have HY : Hid (∀ W, Below w.heap.size w W → W.cell? ⟨b, 0, none⟩ = some (.slice A1 n1 c1) ∧ W.cell? ⟨b, 1, none⟩ = some (.slice A2 n2 c2)) := fun W hb => ⟨(hb.cell (p := ⟨b, 0, none⟩) hlb).trans y1, (hb.cell (p := ⟨b, 1, none⟩) hlb).trans y2⟩
  have HC1 := Lib.hid (h1.more hB)
  have HC2 := Lib.hid (h2.more hB)
  have hNl : N ≤ 80000 := by have := HN.out; omega
  have KG := Lib.hid (grow_M N (by omega) w)
  have w1 : IntKind.i64.wrap (n1 : Int) = (n1 : Int) := by rw [IntKind.wrap_i64]; omega
  have w2 : IntKind.i64.wrap ((n1 : Int) + (n2 : Int)) = (N : Int) := by have := HN.out; rw [IntKind.wrap_i64]; omega
  have g1 : ¬ (n1 : Int) < 0 := by omega
  have g2 : ¬ (N : Int) < 0 := by omega
  clear hlb h1 h2
  go_enter Try.func49, Try.ntmps49
  go_wp2_with fail
  go_loopw [3, 11] (fun s3 i wr => Hid (wr = w) ∧ ((i = .int .i64 0 ∧ s3 = .int .i64 0) ∨ (i = .int .i64 1 ∧ s3 = .int .i64 n1) ∨ (i = .int .i64 2 ∧ s3 = .int .i64 N))) (fun _ i _ => 2 - (intOf i).toNat)
  case atStart => exact ⟨rfl, .inl ⟨rfl, rfl⟩⟩
  case round =>
    obtain ⟨HW, ⟨rfl, rfl⟩ | ⟨rfl, rfl⟩ | ⟨rfl, rfl⟩⟩ := hrel
    · have e0 : w = wr := HW.out.symm
      subst e0
      go_wp2_with fail
      exact ⟨⟨by first | exact rfl | exact trivial, .inr (.inl ⟨by first | rfl | trivial, by first | rfl | trivial⟩)⟩, by simp [intOf]⟩
    · have e0 : w = wr := HW.out.symm
      subst e0
      go_wp2_with fail
      exact ⟨⟨by first | exact rfl | exact trivial, .inr (.inr ⟨by first | rfl | trivial, by first | rfl | trivial⟩)⟩, by simp [intOf]⟩
    · have e0 : w = wr := HW.out.symm
      subst e0
      go_wp2_with fail
      with_reducible refine KG.out.mono ?_
      rintro e w3 ⟨v, rfl, hown, b3⟩
      have HO := Lib.hid hown
      have HB3 := Lib.hid b3
      clear hown b3 KG
      go_wp2_with fail
      go_loopw [6, 27] (fun s6 i wq => Below w.heap.size w wq ∧ ((i = .int .i64 0 ∧ Hid (wq.ownsRow w.heap.size 34 2 s6 0 [])) ∨ (i = .int .i64 1 ∧ Hid (wq.ownsRow w.heap.size 34 2 s6 n1 xs1)) ∨ (i = .int .i64 2 ∧ Hid (wq.ownsRow w.heap.size 34 2 s6 N (xs1 ++ xs2))))) (fun _ i _ => 2 - (intOf i).toNat)
      case atStart => exact ⟨HB3.out, .inl ⟨rfl, HO⟩⟩
      case round =>
        obtain ⟨hb, ⟨rfl, HQ⟩ | ⟨rfl, HQ⟩ | ⟨rfl, HQ⟩⟩ := hrel
        · obtain ⟨z1, z2⟩ := HY.out wr hb
          have HB := Lib.hid hb
          have CC := Lib.hid (HC1.out.below hb)
          have hsz := hb.size
          clear hb
          go_wp2_with (at_builtin; (refine wpList_appR elMt wr rfl (.tmp 31) (.tmp 32) rfl w.heap.size _ 0 [] rfl HQ.out A1 n1 c1 w.heap.size xs1 rfl H1.out.1 H1.out.2 CC.out n1 (by omega) (by omega) hsz ?_; intro v4 w4 hown4 hg4 _; have H4 := Lib.hid (And.intro hown4 (own_grow HQ.out (Nat.le_refl _) HB.out hsz hg4)); clear hown4 hg4))
          exact ⟨⟨H4.out.2, .inr (.inl ⟨by first | rfl | trivial, H4.out.1⟩)⟩, by simp [intOf]⟩
        · obtain ⟨z1, z2⟩ := HY.out wr hb
          have HB := Lib.hid hb
          have CC := Lib.hid (HC2.out.below hb)
          have hsz := hb.size
          clear hb
          go_wp2_with (at_builtin; (refine wpList_appR elMt wr rfl (.tmp 31) (.tmp 32) rfl w.heap.size _ n1 xs1 rfl HQ.out A2 n2 c2 w.heap.size xs2 rfl H2.out.1 H2.out.2 CC.out N HN.out (by omega) hsz ?_; intro v4 w4 hown4 hg4 _; have H4 := Lib.hid (And.intro hown4 (own_grow HQ.out (Nat.le_refl _) HB.out hsz hg4)); clear hown4 hg4))
          exact ⟨⟨H4.out.2, .inr (.inr ⟨by first | rfl | trivial, H4.out.1⟩)⟩, by simp [intOf]⟩
        · have HB := Lib.hid hb
          go_wp2_with fail
          go_ret
          exact ⟨_, rfl, HQ.out, HB.out⟩
end Go.Proofs.Ytcgoeokocabelaa
