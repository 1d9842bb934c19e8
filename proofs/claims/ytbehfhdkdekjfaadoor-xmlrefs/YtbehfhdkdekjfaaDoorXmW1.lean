/- The reader of package xml: its rest; take, upTo, blanks, sign. -/
import Derived.Test.YtbehfhdkdekjfaaDoorStr8
import Derived.Test.YtbehfhdkdekjfaaDoorXmSpec
import Derived.Test.YtbehfhdkdekjfaaDoorVd
import Derived.Laws.Pointers
namespace Go.Proofs.YtbehfhdkdekjfaaDoor
open Go.RowKit
set_option maxRecDepth 100000

/-- What the library's functions read: its tables, and the errors. -/
def Env (w : World) : Prop := UT w ∧ (∃ m, w.cell? ⟨5, 0, none⟩ = some (.int .i64 m)) ∧ (∃ t p, w.cell? ⟨6, 0, none⟩ = some (.iface t p)) ∧ (∃ t p, w.cell? ⟨7, 0, none⟩ = some (.iface t p)) ∧ 8 ≤ w.heap.size
theorem Env.keep {w w' : World} (h : Env w) (hs : w.heap.size ≤ w'.heap.size) (hk : ∀ g, g < 8 → w'.heap[g]? = w.heap[g]?) : Env w' := by
  obtain ⟨⟨h1, h2⟩, ⟨m, hm⟩, ⟨t, p, h6⟩, ⟨t7, p7, h7⟩, h8⟩ := h
  have keep : ∀ b, b < 8 → ∀ o v, w.cell? ⟨b, o, none⟩ = some v → w'.cell? ⟨b, o, none⟩ = some v := fun b hb o v hc => (World.cell?_of_block (w := w) (w' := w') (a := ⟨b, o, none⟩) (hk b hb)).trans hc
  exact ⟨⟨fun c hc => keep _ (by omega) _ _ (h1 c hc), fun i hi => ⟨keep _ (by omega) _ _ (h2 i hi).1, keep _ (by omega) _ _ (h2 i hi).2⟩⟩, ⟨m, keep _ (by omega) _ _ hm⟩, ⟨t, p, keep _ (by omega) _ _ h6⟩, ⟨t7, p7, keep _ (by omega) _ _ h7⟩, by omega⟩
theorem Env.below {w w' : World} (h : Env w) {B : Nat} (hB : 8 ≤ B) (hb : Below B w w') : Env w' := h.keep hb.size fun g hg => hb.block g (by omega)

/-- The reader at R: what is left. -/
structure Rst (w : World) (R : Nat) (l : L8) : Prop where
  lt : R < w.heap.size
  ge : 8 ≤ R
  cell : w.cell? ⟨R, 0, none⟩ = some (.string (strOf l))
  frz : w.frozen? ⟨R, 0, none⟩ = false
/-- Only the reader's rest has turned. -/
structure Mv (w w' : World) (R : Nat) : Prop where
  os : w'.os = w.os
  tape : w'.tape = w.tape
  output : w'.output = w.output
  size : w.heap.size ≤ w'.heap.size
  block : ∀ g, g < w.heap.size → g ≠ R → w'.heap[g]? = w.heap[g]?
  cell : ∀ o, 0 < o → w'.cell? ⟨R, o, none⟩ = w.cell? ⟨R, o, none⟩
  frz : ∀ o, w'.frozen? ⟨R, o, none⟩ = w.frozen? ⟨R, o, none⟩
theorem Mv.refl (w : World) (R : Nat) : Mv w w R := ⟨rfl, rfl, rfl, Nat.le_refl _, fun _ _ _ => rfl, fun _ _ => rfl, fun _ => rfl⟩
theorem Mv.trans {a b c : World} {R : Nat} (h : Mv a b R) (k : Mv b c R) : Mv a c R :=
  ⟨k.os.trans h.os, k.tape.trans h.tape, k.output.trans h.output, Nat.le_trans h.size k.size, fun g hg hne => (k.block g (Nat.lt_of_lt_of_le hg h.size) hne).trans (h.block g hg hne), fun o ho => (k.cell o ho).trans (h.cell o ho), fun o => (k.frz o).trans (h.frz o)⟩
theorem Mv.of {w w' : World} {R : Nat} (hR : R < w.heap.size) (hb : Below w.heap.size w w') : Mv w w' R :=
  ⟨hb.os, hb.tape, hb.output, hb.size, fun g hg _ => hb.block g hg, fun _ _ => hb.cell (p := ⟨R, _, none⟩) hR, fun _ => hb.frozen (p := ⟨R, _, none⟩) hR⟩
theorem Mv.below {w w' : World} {R B : Nat} (h : Mv w w' R) (hB : B ≤ R) (hs : B ≤ w.heap.size) : Below B w w' :=
  ⟨h.os, h.tape, h.output, h.size, fun k hk => h.block k (by omega) (by omega)⟩
theorem Mv.set (w : World) (R : Nat) (v : Value) : Mv w (w.setCell ⟨R, 0, none⟩ v) R :=
  ⟨rfl, rfl, rfl, by simp [World.setCell], fun g _ hne => Below.heap_setCell w ⟨R, 0, none⟩ v g hne, fun o ho => World.cell?_setCell_other _ _ _ _ (by intro e; injection e with _ e; omega), fun o => by simp⟩
theorem Rst.below {w w' : World} {R : Nat} {l : L8} (h : Rst w R l) (hb : Below w.heap.size w w') : Rst w' R l :=
  ⟨Nat.lt_of_lt_of_le h.lt hb.size, h.ge, (hb.cell (p := ⟨R, 0, none⟩) h.lt).trans h.cell, (hb.frozen (p := ⟨R, 0, none⟩) h.lt).trans h.frz⟩
theorem Rst.set {w : World} {R : Nat} {l : L8} (h : Rst w R l) (l' : L8) : Rst (w.setCell ⟨R, 0, none⟩ (.string (strOf l'))) R l' :=
  ⟨by simpa [World.setCell] using h.lt, h.ge, World.cell?_setCell_same _ _ _ (by rw [h.cell]), by simpa using h.frz⟩
theorem Env.mv {w w' : World} {R : Nat} (h : Env w) (hR : 8 ≤ R) (m : Mv w w' R) : Env w' := h.keep m.size fun g hg => m.block g (by have := h.2.2.2.2; omega) (by omega)
theorem below_set {w w' : World} {R : Nat} {l : L8} (h : Rst w R l) (hb : Below w.heap.size w w') (l' : L8) : Mv w (w'.setCell ⟨R, 0, none⟩ (.string (strOf l'))) R ∧ Rst (w'.setCell ⟨R, 0, none⟩ (.string (strOf l'))) R l' :=
  ⟨(Mv.of h.lt hb).trans (Mv.set _ _ _), (h.below hb).set l'⟩

theorem tk_some {p l r : L8} (h : tk p l = some r) : p.isPrefixOf l = true ∧ r = l.drop p.length := by
  unfold tk at h
  split at h
  · rename_i c; injection h with h; exact ⟨c, h.symm⟩
  · cases h
theorem tk_none {p l : L8} (h : tk p l = none) : p.isPrefixOf l = false := by
  unfold tk at h
  split at h
  · cases h
  · rename_i c; exact Bool.eq_false_iff.2 c
theorem tk_app {p l r : L8} (h : tk p l = some r) : l = p ++ r := by
  obtain ⟨h1, rfl⟩ := tk_some h
  rw [List.isPrefixOf_iff_prefix] at h1
  obtain ⟨t, rfl⟩ := h1
  simp
theorem tk_len {p l r : L8} (h : tk p l = some r) : l.length = p.length + r.length := by rw [tk_app h, List.length_append]

set_option maxHeartbeats 1000000 in
theorem take_yes (R : Nat) (p : L8) {l r : L8} (hk : tk p l = some r) (w : World) (h : Rst w R l) :
    Calls Tryd.prog 37 #[.pointer (some ⟨R, 0, none⟩), .string (strOf p)] w fun e w' => e = .returned (.bool true) ∧ Mv w w' R ∧ Rst w' R r := by
  obtain ⟨h1, rfl⟩ := tk_some hk
  have HC := Lib.hid (Tryd.strings_CutPrefix (strOf l) (strOf p) w)
  rw [show Lib.trimPrefix (strOf l).data.toList (strOf p).data.toList = l.drop p.length by rw [str_data, str_data]; unfold Lib.trimPrefix Lib.hasPrefix; rw [h1]; rfl, show Lib.hasPrefix (strOf l).data.toList (strOf p).data.toList = true by rw [str_data, str_data]; exact h1] at HC
  have hc := h.cell
  have hf := h.frz
  have H := Lib.hid h
  clear h hk h1
  go_enter Tryd.func37, Tryd.ntmps37
  go_wp2_with fail
  refine HC.out.mono ?_
  rintro e w1 ⟨rfl, rfl⟩
  go_wp2_with fail
  go_ret
  exact ⟨rfl, below_set H.out (Below.refl _ _) _⟩
set_option maxHeartbeats 1000000 in
theorem take_no (R : Nat) (p : L8) {l : L8} (hk : tk p l = none) (w : World) (h : Rst w R l) :
    Calls Tryd.prog 37 #[.pointer (some ⟨R, 0, none⟩), .string (strOf p)] w fun e w' => e = .returned (.bool false) ∧ Mv w w' R ∧ Rst w' R l := by
  have h1 := tk_none hk
  have HC := Lib.hid (Tryd.strings_CutPrefix (strOf l) (strOf p) w)
  rw [show Lib.trimPrefix (strOf l).data.toList (strOf p).data.toList = l by rw [str_data, str_data]; unfold Lib.trimPrefix Lib.hasPrefix; rw [h1]; rfl, show Lib.hasPrefix (strOf l).data.toList (strOf p).data.toList = false by rw [str_data, str_data]; exact h1] at HC
  have hc := h.cell
  have hf := h.frz
  have H := Lib.hid h
  clear h hk h1
  go_enter Tryd.func37, Tryd.ntmps37
  go_wp2_with fail
  refine HC.out.mono ?_
  rintro e w1 ⟨rfl, rfl⟩
  go_wp2_with fail
  go_ret
  exact ⟨rfl, below_set H.out (Below.refl _ _) _⟩
end Go.Proofs.YtbehfhdkdekjfaaDoor
