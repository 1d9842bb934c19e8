/- (*Match).turn. -/
import Derived.Test.YtafbjadlklcicaaMaAn
import Derived.Deep.RegionLaw
import Derived.Deep.RegionWith
namespace Go.Proofs.Ytafbjadlklcicaa
open Go.RowKit
set_option maxRecDepth 100000

/-- One slice of an element has one span more; nothing else is another. -/
structure TP (w w' : World) (L o base : Nat) (t : Value) (n : Nat) (l : List Sp) : Prop where
  ex : ∃ t', w'.cell? ⟨L, o, none⟩ = some t' ∧ w'.ownsRow base 26 4 t' n (spCs l) ∧ (t'.ownBlock = t.ownBlock ∨ ∃ b, t'.ownBlock = some b ∧ w.heap.size ≤ b) ∧ t'.ownBlock ≠ some L
  hp : ∀ g, g < w.heap.size → g ≠ L → some g ≠ t.ownBlock → w'.heap[g]? = w.heap[g]?
  ce : ∀ j, j ≠ o → w'.cell? ⟨L, j, none⟩ = w.cell? ⟨L, j, none⟩
  fr : ∀ j, w'.frozen? ⟨L, j, none⟩ = w.frozen? ⟨L, j, none⟩
  bl : Below base w w'
  size : w.heap.size ≤ w'.heap.size
theorem own_set {w : World} {base L o : Nat} {t : TypeId} {k : Nat} {v : Value} {n : Nat} {xs : List Value} (h : w.ownsRow base t k v n xs) (hne : v.ownBlock ≠ some L) (u : Value) : (w.setCell ⟨L, o, none⟩ u).ownsRow base t k v n xs := by
  refine ⟨h.1, ?_⟩
  rcases h.2 with h | ⟨g, cap, cur, hv, hg, hh, r⟩
  · exact .inl h
  · exact .inr ⟨g, cap, cur, hv, hg, (Below.heap_setCell _ _ _ _ (fun e => hne (by rw [hv]; show some g = some L; rw [e]))).trans hh, r⟩
theorem TP.of {w W1 w4 : World} {L o base n : Nat} {t v4 : Value} {l : List Sp} (hB : Below w.heap.size w W1) (hg : W1.grownBy w4 t.ownBlock) (hown4 : w4.ownsRow base 26 4 v4 n (spCs l)) (hv4 : v4.ownBlock = t.ownBlock ∨ v4.ownBlock = some W1.heap.size) (hne : t.ownBlock ≠ some L) (hL : L < w.heap.size)
    (k4 : w4.cell? ⟨L, o, none⟩ = some t) (hb : base ≤ w.heap.size) (hbL : base ≤ L) (htb : ∀ b, t.ownBlock = some b → base ≤ b) : TP w (w4.setCell ⟨L, o, none⟩ v4) L o base t n l := by
  have hs := hB.size
  have ne4 : v4.ownBlock ≠ some L := fun e => by
    rcases hv4 with h | h
    · exact hne (by rw [← h]; exact e)
    · rw [h] at e
      injection e with e
      omega
  have hLb : w4.heap[L]? = w.heap[L]? := (hg.block L (by omega) (fun e => hne e.symm)).trans (hB.block L hL)
  refine ⟨⟨v4, World.cell?_setCell_same _ _ _ (by rw [k4]), own_set hown4 ne4 _, hv4.imp id fun h => ⟨_, h, hs⟩, ne4⟩, fun g h1 h2 h3 => ?_, fun j hj => ?_, fun j => ?_, ?_, by have := hg.size; simp [World.setCell]; omega⟩
  · rw [Below.heap_setCell _ _ _ _ h2]
    exact (hg.block g (by omega) h3).trans (hB.block g h1)
  · rw [World.cell?_setCell_other _ _ _ _ (by intro e; injection e with _ e; omega)]
    simp only [World.cell?, hLb]
  · have : (w4.setCell ⟨L, o, none⟩ v4).frozen? ⟨L, j, none⟩ = w4.frozen? ⟨L, j, none⟩ := by simp
    rw [this]
    simp only [World.frozen?, hLb]
  · exact (((hB.mono hb).grown hg (by omega) htb).setCell hbL _)
set_option maxHeartbeats 2000000 in
theorem turn_out (L o : Nat) (t : Value) (A0 A1 : Option Addr) (n0 c0 n1 c1 : Nat) (m : Mt) (k n base : Nat) (l : List Sp) (w : World) (h0 : SV w w.heap.size (.slice A0 n0 c0) m.1) (hk : k < n0) (hkm : k < m.1.length) (hn0 : n0 ≤ 20000)
    (ct : w.cell? ⟨L, o + 1, none⟩ = some t) (ft : w.frozen? ⟨L, o + 1, none⟩ = false) (own : w.ownsRow base 26 4 t n (spCs l)) (hn : n ≤ 100000) (hne : t.ownBlock ≠ some L) (hb : base ≤ w.heap.size) (hbL : base ≤ L) :
    Calls Try.prog 66 #[.pointer (some ⟨L, o, none⟩), .agg #[.slice A0 n0 c0, .slice A1 n1 c1], .int .i64 k] w fun e w' => e = .returned (.tuple #[]) ∧ TP w w' L (o + 1) base t (n + 1) (l ++ [m.1[k]]) := by
  obtain ⟨eN, hcs⟩ := h0.cs
  obtain ⟨b, p, rfl, hbl, hc⟩ := hcs (by rw [spCs_len]; omega)
  obtain ⟨W, hW⟩ : ∃ W, w.alloc (.cells #[.slice (some ⟨b, p, none⟩) n0 c0, .slice A1 n1 c1] 60) = W := ⟨_, rfl⟩
  have bW : Below w.heap.size w W := by rw [← hW]; exact (Below.refl _ _).alloc (Nat.le_refl _) _
  have sW : W.heap.size = w.heap.size + 1 := by rw [← hW]; simp
  obtain ⟨x0, x1⟩ := box2 w (.slice (some ⟨b, p, none⟩) n0 c0) (.slice A1 n1 c1) 60
  rw [hW] at x0 x1
  have hLw : L < w.heap.size := World.block_lt_of_cell? w _ ct
  obtain ⟨d0, d1, d2, d3⟩ := spCs_at m.1 k hkm
  have e0 := (bW.cell (p := ⟨b, p + k * 4, none⟩) hbl).trans (hc _ _ d0)
  have e1 := (bW.cell (p := ⟨b, p + (k * 4 + 1), none⟩) hbl).trans (hc _ _ d1)
  have e2 := (bW.cell (p := ⟨b, p + (k * 4 + 2), none⟩) hbl).trans (hc _ _ d2)
  have e3 := (bW.cell (p := ⟨b, p + (k * 4 + 3), none⟩) hbl).trans (hc _ _ d3)
  rw [← Nat.add_assoc] at e1 e2 e3
  obtain ⟨s, hs⟩ : ∃ s, s = m.1[k] := ⟨_, rfl⟩
  rw [← hs] at e0 e1 e2 e3 ⊢
  obtain ⟨f, t', q, r⟩ := s
  simp only at e0 e1 e2 e3
  have ctW := (bW.cell (p := ⟨L, o + 1, none⟩) hLw).trans ct
  have ftW := (bW.frozen (p := ⟨L, o + 1, none⟩) hLw).trans ft
  have HOW := Lib.hid (own_below own bW)
  have HBW := Lib.hid bW
  have HNE := Lib.hid hne
  have HTB : Hid (∀ b, t.ownBlock = some b → base ≤ b) := fun b hb => by obtain ⟨_, _, _, _, _, _, h⟩ := own_form own; exact (h b hb).1
  have HW := Lib.hid hW
  have hkI : (k : Int) < (n0 : Int) := by omega
  have hLW : L < W.heap.size := by omega
  have HC4 : Hid (CS ((W.alloc (.cells #[.int .i64 f, .int .i64 t', .int .i64 q, .int .i64 r] 26)).drew) (W.heap.size + 1) (some ⟨W.heap.size, 0, none⟩) (spCs [(f, t', q, r)])) := cells_new W #[.int .i64 f, .int .i64 t', .int .i64 q, .int .i64 r] 26 _ (Nat.lt_succ_self _)
  have HBA : Hid (Below W.heap.size W ((W.alloc (.cells #[.int .i64 f, .int .i64 t', .int .i64 q, .int .i64 r] 26)).drew)) := ((Below.refl _ _).alloc (Nat.le_refl _) _).drew
  have HOA := Lib.hid (own_below HOW.out HBA.out)
  have HCA : Hid (((W.alloc (.cells #[.int .i64 f, .int .i64 t', .int .i64 q, .int .i64 r] 26)).drew).cell? ⟨L, o + 1, none⟩ = some t ∧ ((W.alloc (.cells #[.int .i64 f, .int .i64 t', .int .i64 q, .int .i64 r] 26)).drew).frozen? ⟨L, o + 1, none⟩ = false) := ⟨(HBA.out.cell (p := ⟨L, o + 1, none⟩) hLW).trans ctW, (HBA.out.frozen (p := ⟨L, o + 1, none⟩) hLW).trans ftW⟩
  have hsA : base ≤ (W.alloc (.cells #[.int .i64 f, .int .i64 t', .int .i64 q, .int .i64 r] 26)).drew.heap.size := by have := HBA.out.size; omega
  clear hW bW sW d0 d1 d2 d3 hc hcs hs own eN hkm h0
  go_enter Try.func66, Try.ntmps66
  go_wp2_with fail
  rw [HW.out]
  go_region_law ((refine step_appR elSp _ (by rfl) _ _ (by rfl) base t n (spCs l) (by rfl) HOA.out (some ⟨W.heap.size, 0, none⟩) 1 1 (W.heap.size + 1) (spCs [(f, t', q, r)]) (by rfl) (by rfl) (spCs_one _) HC4.out (n + 1) (by rfl) (by omega) hsA ?_; intro v4 w4 hown4 hgrow hv4; obtain ⟨A4, c4, rfl, _⟩ := own_form hown4; have k4 := (hgrow.cell_far ⟨L, o + 1, none⟩ (by simp; omega) (fun e => HNE.out e.symm)).trans HCA.out.1; have f4 := (hgrow.frozen_far ⟨L, o + 1, none⟩ (by simp; omega) (fun e => HNE.out e.symm)).trans HCA.out.2))
  all_goals
    have HTP := Lib.hid (TP.of (HBW.out.trans (HBA.out.mono HBW.out.size)) hgrow (by rw [spCs_app]; exact hown4) hv4 HNE.out hLw k4 hb hbL HTB.out)
    clear hown4 hgrow hv4 k4 f4
    go_wp2_with fail
    refine bodyPost_ret (v := .tuple #[]) (by simp [results, Try.results66, go_sem]) rfl ⟨rfl, HTP.out⟩
set_option maxHeartbeats 2000000 in
theorem turn_in (L o : Nat) (t : Value) (A0 A1 : Option Addr) (n0 c0 n1 c1 : Nat) (m : Mt) (k z n base : Nat) (l : List Sp) (w : World) (h0 : SV w w.heap.size (.slice A1 n1 c1) m.2) (hz : z = n0 + k) (hk : k < n1) (hkm : k < m.2.length) (hn0 : n1 ≤ 20000)
    (ct : w.cell? ⟨L, o, none⟩ = some t) (ft : w.frozen? ⟨L, o, none⟩ = false) (own : w.ownsRow base 26 4 t n (spCs l)) (hn : n ≤ 100000) (hne : t.ownBlock ≠ some L) (hb : base ≤ w.heap.size) (hbL : base ≤ L) :
    Calls Try.prog 66 #[.pointer (some ⟨L, o, none⟩), .agg #[.slice A0 n0 c0, .slice A1 n1 c1], .int .i64 z] w fun e w' => e = .returned (.tuple #[]) ∧ TP w w' L o base t (n + 1) (l ++ [m.2[k]]) := by
  obtain ⟨eN, hcs⟩ := h0.cs
  obtain ⟨b, p, rfl, hbl, hc⟩ := hcs (by rw [spCs_len]; omega)
  obtain ⟨W, hW⟩ : ∃ W, w.alloc (.cells #[.slice A0 n0 c0, .slice (some ⟨b, p, none⟩) n1 c1] 60) = W := ⟨_, rfl⟩
  have bW : Below w.heap.size w W := by rw [← hW]; exact (Below.refl _ _).alloc (Nat.le_refl _) _
  have sW : W.heap.size = w.heap.size + 1 := by rw [← hW]; simp
  obtain ⟨x0, x1⟩ := box2 w (.slice A0 n0 c0) (.slice (some ⟨b, p, none⟩) n1 c1) 60
  rw [hW] at x0 x1
  have hLw : L < w.heap.size := World.block_lt_of_cell? w _ ct
  obtain ⟨d0, d1, d2, d3⟩ := spCs_at m.2 k hkm
  have e0 := (bW.cell (p := ⟨b, p + k * 4, none⟩) hbl).trans (hc _ _ d0)
  have e1 := (bW.cell (p := ⟨b, p + (k * 4 + 1), none⟩) hbl).trans (hc _ _ d1)
  have e2 := (bW.cell (p := ⟨b, p + (k * 4 + 2), none⟩) hbl).trans (hc _ _ d2)
  have e3 := (bW.cell (p := ⟨b, p + (k * 4 + 3), none⟩) hbl).trans (hc _ _ d3)
  rw [← Nat.add_assoc] at e1 e2 e3
  obtain ⟨s, hs⟩ : ∃ s, s = m.2[k] := ⟨_, rfl⟩
  rw [← hs] at e0 e1 e2 e3 ⊢
  obtain ⟨f, t', q, r⟩ := s
  simp only at e0 e1 e2 e3
  have ctW := (bW.cell (p := ⟨L, o, none⟩) hLw).trans ct
  have ftW := (bW.frozen (p := ⟨L, o, none⟩) hLw).trans ft
  have HOW := Lib.hid (own_below own bW)
  have HBW := Lib.hid bW
  have HNE := Lib.hid hne
  have HTB : Hid (∀ b, t.ownBlock = some b → base ≤ b) := fun b hb => by obtain ⟨_, _, _, _, _, _, h⟩ := own_form own; exact (h b hb).1
  have HW := Lib.hid hW
  have hkI : (k : Int) < (n1 : Int) := by omega
  have hzI : ¬ (z : Int) < (n0 : Int) := by omega
  have wz : IntKind.i64.wrap ((z : Int) - (n0 : Int)) = (k : Int) := by rw [IntKind.wrap_i64]; omega
  have hLW : L < W.heap.size := by omega
  have HC4 : Hid (CS ((W.alloc (.cells #[.int .i64 f, .int .i64 t', .int .i64 q, .int .i64 r] 26)).drew) (W.heap.size + 1) (some ⟨W.heap.size, 0, none⟩) (spCs [(f, t', q, r)])) := cells_new W #[.int .i64 f, .int .i64 t', .int .i64 q, .int .i64 r] 26 _ (Nat.lt_succ_self _)
  have HBA : Hid (Below W.heap.size W ((W.alloc (.cells #[.int .i64 f, .int .i64 t', .int .i64 q, .int .i64 r] 26)).drew)) := ((Below.refl _ _).alloc (Nat.le_refl _) _).drew
  have HOA := Lib.hid (own_below HOW.out HBA.out)
  have HCA : Hid (((W.alloc (.cells #[.int .i64 f, .int .i64 t', .int .i64 q, .int .i64 r] 26)).drew).cell? ⟨L, o, none⟩ = some t ∧ ((W.alloc (.cells #[.int .i64 f, .int .i64 t', .int .i64 q, .int .i64 r] 26)).drew).frozen? ⟨L, o, none⟩ = false) := ⟨(HBA.out.cell (p := ⟨L, o, none⟩) hLW).trans ctW, (HBA.out.frozen (p := ⟨L, o, none⟩) hLW).trans ftW⟩
  have hsA : base ≤ (W.alloc (.cells #[.int .i64 f, .int .i64 t', .int .i64 q, .int .i64 r] 26)).drew.heap.size := by have := HBA.out.size; omega
  clear hW bW sW d0 d1 d2 d3 hc hcs hs own eN hkm h0 hz
  go_enter Try.func66, Try.ntmps66
  go_wp2_with fail
  rw [HW.out]
  go_region_law ((refine step_appR elSp _ (by rfl) _ _ (by rfl) base t n (spCs l) (by rfl) HOA.out (some ⟨W.heap.size, 0, none⟩) 1 1 (W.heap.size + 1) (spCs [(f, t', q, r)]) (by rfl) (by rfl) (spCs_one _) HC4.out (n + 1) (by rfl) (by omega) hsA ?_; intro v4 w4 hown4 hgrow hv4; obtain ⟨A4, c4, rfl, _⟩ := own_form hown4; have k4 := (hgrow.cell_far ⟨L, o, none⟩ (by simp; omega) (fun e => HNE.out e.symm)).trans HCA.out.1; have f4 := (hgrow.frozen_far ⟨L, o, none⟩ (by simp; omega) (fun e => HNE.out e.symm)).trans HCA.out.2))
  all_goals
    have HTP := Lib.hid (TP.of (HBW.out.trans (HBA.out.mono HBW.out.size)) hgrow (by rw [spCs_app]; exact hown4) hv4 HNE.out hLw k4 hb hbL HTB.out)
    clear hown4 hgrow hv4 k4 f4
    go_wp2_with fail
    go_end0
    exact ⟨rfl, HTP.out⟩
end Go.Proofs.Ytafbjadlklcicaa
