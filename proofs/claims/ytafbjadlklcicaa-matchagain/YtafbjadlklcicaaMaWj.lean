/- MaWi, MaOf, MaOr, MaAn in one text. -/
import Derived.Test.YtafbjadlklcicaaMaCl
/- (Match).with. -/
namespace Go.Proofs.Ytafbjadlklcicaa
open Go.RowKit
set_option maxRecDepth 100000

theorem SV.cs {w : World} {B : Nat} {A : Option Addr} {n c : Nat} {l : List Sp} (h : SV w B (.slice A n c) l) : n = l.length ∧ CS w B A (spCs l) := by
  obtain ⟨A', c', e, _, _, h3⟩ := h
  injection e with e1 e2 e3
  subst e1 e3
  exact ⟨e2, h3⟩
theorem keep4 (W : World) (a : Nat) (u0 u1 x0 x1 x2 x3 : Value) (h : W.cell? ⟨a, 0, none⟩ = some x0 ∧ W.cell? ⟨a, 1, none⟩ = some x1 ∧ W.cell? ⟨a + 1, 0, none⟩ = some x2 ∧ W.cell? ⟨a + 1, 1, none⟩ = some x3) :
    ((W.setCell ⟨a + 1 + 1, 0, none⟩ u0).setCell ⟨a + 1 + 1, 1, none⟩ u1).cell? ⟨a, 0, none⟩ = some x0 ∧ ((W.setCell ⟨a + 1 + 1, 0, none⟩ u0).setCell ⟨a + 1 + 1, 1, none⟩ u1).cell? ⟨a, 1, none⟩ = some x1 ∧ ((W.setCell ⟨a + 1 + 1, 0, none⟩ u0).setCell ⟨a + 1 + 1, 1, none⟩ u1).cell? ⟨a + 1, 0, none⟩ = some x2 ∧ ((W.setCell ⟨a + 1 + 1, 0, none⟩ u0).setCell ⟨a + 1 + 1, 1, none⟩ u1).cell? ⟨a + 1, 1, none⟩ = some x3 := by
  refine ⟨?_, ?_, ?_, ?_⟩
  · rw [World.cell?_setCell_other _ _ _ _ (by intro e; injection e with e _; omega), World.cell?_setCell_other _ _ _ _ (by intro e; injection e with e _; omega)]; exact h.1
  · rw [World.cell?_setCell_other _ _ _ _ (by intro e; injection e with e _; omega), World.cell?_setCell_other _ _ _ _ (by intro e; injection e with e _; omega)]; exact h.2.1
  · rw [World.cell?_setCell_other _ _ _ _ (by intro e; injection e with e _; omega), World.cell?_setCell_other _ _ _ _ (by intro e; injection e with e _; omega)]; exact h.2.2.1
  · rw [World.cell?_setCell_other _ _ _ _ (by intro e; injection e with e _; omega), World.cell?_setCell_other _ _ _ _ (by intro e; injection e with e _; omega)]; exact h.2.2.2
/-- Two blocks of two cells, one behind the other. -/
theorem box2n (w : World) (o : Obj) (z0 z1 : Value) (t : TypeId) : ((w.alloc o).alloc (.cells #[z0, z1] t)).cell? ⟨w.heap.size + 1, 0, none⟩ = some z0 ∧ ((w.alloc o).alloc (.cells #[z0, z1] t)).cell? ⟨w.heap.size + 1, 1, none⟩ = some z1 := by
  have h := box2 (w.alloc o) z0 z1 t
  rw [show (w.alloc o).heap.size = w.heap.size + 1 by simp] at h
  exact h
theorem box2o (w : World) (o : Obj) (z0 z1 : Value) (t : TypeId) : ((w.alloc (.cells #[z0, z1] t)).alloc o).cell? ⟨w.heap.size, 0, none⟩ = some z0 ∧ ((w.alloc (.cells #[z0, z1] t)).alloc o).cell? ⟨w.heap.size, 1, none⟩ = some z1 := by
  have h := box2 w z0 z1 t
  have b : Below (w.alloc (.cells #[z0, z1] t)).heap.size (w.alloc (.cells #[z0, z1] t)) ((w.alloc (.cells #[z0, z1] t)).alloc o) := (Below.refl _ _).alloc (Nat.le_refl _) _
  exact ⟨(b.cell (p := ⟨w.heap.size, 0, none⟩) (by simp)).trans h.1, (b.cell (p := ⟨w.heap.size, 1, none⟩) (by simp)).trans h.2⟩
end Go.Proofs.Ytafbjadlklcicaa
/- Of. -/
namespace Go.Proofs.Ytafbjadlklcicaa
open Go.RowKit
set_option maxRecDepth 100000

theorem cells_new (w : World) (cs : Array Value) (t : TypeId) (B : Nat) (hB : w.heap.size < B) : CS (w.alloc (.cells cs t)) B (some ⟨w.heap.size, 0, none⟩) cs.toList := fun _ => ⟨w.heap.size, 0, rfl, hB, fun k u hu => by
  have h := new_cells w cs t (0, 0) k u hu
  rw [add_addr] at h
  exact h⟩
def ofL (l : List Sp) : List Mt := l.map fun s => ([s], [])
set_option maxHeartbeats 2000000 in
theorem of_any (A : Option Addr) (n c : Nat) (l : List Sp) (HN : Hid (n = l.length)) (hn : n ≤ 100000) (w : World) (h : CS w w.heap.size A (spCs l)) :
    Calls Try.prog 32 #[.slice A n c] w fun e w' => ∃ v zs, e = .returned v ∧ MK w w' v zs (ofL l) := by
  have HC := Lib.hid h
  have HM0 := Lib.hid (MK.nil w)
  clear h
  go_enter Try.func32, Try.ntmps32
  go_wp2_with fail
  go_loopw [3, 8] (fun s3 i wr => ∃ (k : Nat) (v : Value) (zs : List (Value × Value)), k ≤ n ∧ i = .int .i64 k ∧ v = s3 ∧ Hid (MK w wr v zs (ofL (l.take k)))) (fun _ i _ => n - (intOf i).toNat)
  case atStart => exact ⟨0, _, [], Nat.zero_le _, rfl, rfl, HM0⟩
  case round =>
    obtain ⟨k, v, zs, hk, rfl, rfl, HM⟩ := hrel
    have HZ : Hid (zs.length = k) := by show _ = _; rw [HM.out.mz.len, ofL, List.length_map, List.length_take, ← HN.out]; omega
    by_cases hlt : k < n
    · have hkl : k < l.length := by rw [← HN.out]; exact hlt
      have HLT := Lib.hid hlt
      obtain ⟨b, o, rfl, hb, hc⟩ := (HC.out.below HM.out.kb) (by rw [spCs_len]; omega)
      obtain ⟨c0, c1, c2, c3⟩ := spCs_at l k hkl
      have e0 := hc _ _ c0
      have e1 := hc _ _ c1
      have e2 := hc _ _ c2
      have e3 := hc _ _ c3
      rw [← Nat.add_assoc] at e1 e2 e3
      have HX : Hid (ofL (l.take (k + 1)) = ofL (l.take k) ++ [([l[k]], [])]) := by show _ = _; rw [List.take_succ_eq_append_getElem hkl]; unfold ofL; rw [List.map_append]; rfl
      obtain ⟨s, hs⟩ : ∃ s, s = l[k] := ⟨_, rfl⟩
      rw [← hs] at e0 e1 e2 e3 HX
      obtain ⟨f, t, p, q⟩ := s
      simp only at e0 e1 e2 e3
      obtain ⟨X1, hX1⟩ : ∃ X, wr.alloc (.cells #[.int .i64 f, .int .i64 t, .int .i64 p, .int .i64 q] 26) = X := ⟨_, rfl⟩
      obtain ⟨X2, hX2⟩ : ∃ X, X1.alloc (.cells #[.int .i64 f, .int .i64 t, .int .i64 p, .int .i64 q] 26) = X := ⟨_, rfl⟩
      obtain ⟨X, hX⟩ : ∃ X, X2.alloc (.cells #[.slice (some ⟨wr.heap.size + 1, 0, none⟩) 1 1, .slice none 0 0] 60) = X := ⟨_, rfl⟩
      have s1 : X1.heap.size = wr.heap.size + 1 := by rw [← hX1]; simp
      have s2 : X2.heap.size = wr.heap.size + 1 + 1 := by rw [← hX2]; simp [s1]
      have s3 : X.heap.size = wr.heap.size + 3 := by rw [← hX]; simp [s2]
      have b1 : Below wr.heap.size wr X1 := by rw [← hX1]; exact (Below.refl _ _).alloc (Nat.le_refl _) _
      have b2 : Below X1.heap.size X1 X2 := by rw [← hX2]; exact (Below.refl _ _).alloc (Nat.le_refl _) _
      have b3 : Below X2.heap.size X2 X := by rw [← hX]; exact (Below.refl _ _).alloc (Nat.le_refl _) _
      have bX : Below wr.heap.size wr X := b1.trans ((b2.mono b1.size).trans (b3.mono (by omega)))
      have k2 : CS X2 X2.heap.size (some ⟨wr.heap.size + 1, 0, none⟩) (spCs [(f, t, p, q)]) := by
        have h := cells_new X1 #[.int .i64 f, .int .i64 t, .int .i64 p, .int .i64 q] 26 X2.heap.size (by omega)
        rw [hX2, s1] at h
        exact h
      have HS1 : Hid (SV X X.heap.size (.slice (some ⟨wr.heap.size + 1, 0, none⟩) 1 1) [(f, t, p, q)]) := ⟨_, 1, rfl, Nat.le_refl _, by decide, (k2.below b3).more b3.size⟩
      have HCN : Hid (CS X X.heap.size (some ⟨wr.heap.size + 1 + 1, 0, none⟩) [.slice (some ⟨wr.heap.size + 1, 0, none⟩) 1 1, .slice none 0 0]) := by
        have h := cells_new X2 #[.slice (some ⟨wr.heap.size + 1, 0, none⟩) 1 1, .slice none 0 0] 60 X.heap.size (by omega)
        rw [hX, s2] at h
        exact h
      have HX0 : Hid (((wr.alloc (.cells #[.int .i64 f, .int .i64 t, .int .i64 p, .int .i64 q] 26)).alloc (.cells #[.int .i64 f, .int .i64 t, .int .i64 p, .int .i64 q] 26)).alloc (.cells #[.slice (some ⟨wr.heap.size + 1, 0, none⟩) 1 1, .slice none 0 0] 60) = X) := by show _ = _; rw [hX1, hX2, hX]
      have HBX := Lib.hid bX
      have HOX : Hid (X.ownsRow w.heap.size 60 2 v k (zC zs)) := by have := own_below HM.out.own bX; rw [HZ.out] at this; exact this
      have hbs : w.heap.size ≤ X.heap.size := by have := HM.out.kb.size; omega
      clear hX1 hX2 hX s1 s2 s3 b1 b2 b3 bX k2 c0 c1 c2 c3 hc hs hb
      go_wp2_with (at_builtin; go_loud (rw [HX0.out]; refine wpList_appR elMt X rfl (.tmp 12) (.tmp 16) rfl w.heap.size v k (zC zs) rfl HOX.out (some ⟨wr.heap.size + 1 + 1, 0, none⟩) 1 1 X.heap.size [.slice (some ⟨wr.heap.size + 1, 0, none⟩) 1 1, .slice none 0 0] rfl rfl (fun u hu => by simp at hu; rcases hu with rfl | rfl <;> rfl) HCN.out (k + 1) rfl (by omega) hbs ?_; intro v4 w4 hown4 hg4 hv4; rw [← HZ.out] at hown4; have HM4 := Lib.hid (HM.out.app HBX.out (.slice (some ⟨wr.heap.size + 1, 0, none⟩) 1 1, .slice none 0 0) ([(f, t, p, q)], []) HS1.out (SV.nil _ _) (fun a n c e _ => by injection e with e; injection e with e; rw [← e]; exact Nat.le_succ _) (Fr.nil _ _ _) hown4 hg4 hv4); clear hown4 hg4 hv4))
      rw [← HX.out] at HM4
      exact ⟨⟨k + 1, v4, _, HLT.out, by go_num, rfl, HM4⟩, by have := HLT.out; simp [intOf]; omega⟩
    · obtain rfl : k = n := by omega
      have HF : Hid (MK w wr v zs (ofL l)) := by have h := HM.out; rw [List.take_of_length_le (by rw [HN.out]; exact Nat.le_refl _)] at h; exact h
      go_wp2_with fail
      go_ret
      exact ⟨_, _, rfl, HF.out⟩
end Go.Proofs.Ytafbjadlklcicaa
/- Or. -/
namespace Go.Proofs.Ytafbjadlklcicaa
open Go.RowKit
set_option maxRecDepth 100000

theorem MK.base {w0 w1 wr : World} {v : Value} {zs : List (Value × Value)} {ms : List Mt} (h : MK w1 wr v zs ms) (hb : Below w0.heap.size w0 w1) : MK w0 wr v zs ms :=
  ⟨own_le h.own hb.size, h.mz, hb.trans (h.kb.mono hb.size), fun z hz => ⟨⟨(h.fz z hz).1.1.le hb.size, (h.fz z hz).1.2.le hb.size⟩, (h.fz z hz).2⟩⟩
def smM (ms : List Mt) : Prop := ∀ m ∈ ms, m.1.length ≤ 20000 ∧ m.2.length ≤ 20000
theorem smM.app {a b : List Mt} (h : smM a) (k : smM b) : smM (a ++ b) := fun m hm => (List.mem_append.1 hm).elim (h m) (k m)
end Go.Proofs.Ytafbjadlklcicaa
/- And. -/
namespace Go.Proofs.Ytafbjadlklcicaa
open Go.RowKit
set_option maxRecDepth 100000

def joinM (x y : Mt) : Mt := (x.1 ++ y.1, x.2 ++ y.2)
def andL (ms ns : List Mt) : List Mt := ms.flatMap fun x => ns.map (joinM x)
theorem andL_snoc (ms ns : List Mt) (x : Mt) : andL (ms ++ [x]) ns = andL ms ns ++ ns.map (joinM x) := by unfold andL; rw [List.flatMap_append]; simp
theorem andL_len : ∀ (ms ns : List Mt), (andL ms ns).length = ms.length * ns.length
  | [], ns => by simp [andL]
  | x :: t, ns => by
    have ih := andL_len t ns
    have e : andL (x :: t) ns = ns.map (joinM x) ++ andL t ns := rfl
    rw [e, List.length_append, List.length_map, ih, List.length_cons, Nat.add_mul]
    omega
/-- A box of two cells, beside a row that grows. -/
structure Bx2 (w : World) (D : Nat) (z0 z1 v : Value) : Prop where
  c0 : w.cell? ⟨D, 0, none⟩ = some z0
  c1 : w.cell? ⟨D, 1, none⟩ = some z1
  ne : v.ownBlock ≠ some D
theorem Bx2.lt {w : World} {D : Nat} {z0 z1 v : Value} (h : Bx2 w D z0 z1 v) : D < w.heap.size := World.block_lt_of_cell? w _ h.c0
theorem Bx2.below {w w' : World} {D : Nat} {z0 z1 v : Value} (h : Bx2 w D z0 z1 v) (hb : Below w.heap.size w w') : Bx2 w' D z0 z1 v := ⟨(hb.cell h.lt).trans h.c0, (hb.cell h.lt).trans h.c1, h.ne⟩
theorem Bx2.grown {w w' : World} {D : Nat} {z0 z1 v v' : Value} (h : Bx2 w D z0 z1 v) (hg : w.grownBy w' v.ownBlock) (hv : v'.ownBlock = v.ownBlock ∨ v'.ownBlock = some w.heap.size) : Bx2 w' D z0 z1 v' := by
  have hb := hg.block D h.lt (fun e => h.ne e.symm)
  refine ⟨?_, ?_, fun e => ?_⟩
  · have := h.c0; simp only [World.cell?, hb] at this ⊢; exact this
  · have := h.c1; simp only [World.cell?, hb] at this ⊢; exact this
  · rcases hv with hv | hv
    · exact h.ne (by rw [← hv]; exact e)
    · rw [hv] at e
      injection e with e
      have := h.lt
      omega
end Go.Proofs.Ytafbjadlklcicaa
