/- A cursor in memory; post.look. -/
import Derived.Test.YtjigaoclngfcaaaPoCs
import Derived.Test.YtjigaoclngfcaaaPoAp
import Derived.Test.YtjigaoclngfcaaaRdP
import Derived.Deep.RegionLaw
import Derived.Deep.RegionWith
import Derived.WalkKit
import Derived.WalkSpells
import Derived.LoopTactic
import Derived.Outline
import Derived.Lib.Hide
namespace Go.Proofs.Ytjigaoclngfcaaa
open Go.RowKit
set_option maxRecDepth 100000

theorem cellH {w w' : World} {b o : Nat} (h : w'.heap[b]? = w.heap[b]?) : w'.cell? ⟨b, o, none⟩ = w.cell? ⟨b, o, none⟩ := by simp [World.cell?, h]
theorem frozH {w w' : World} {b o : Nat} (h : w'.heap[b]? = w.heap[b]?) : w'.frozen? ⟨b, o, none⟩ = w.frozen? ⟨b, o, none⟩ := by simp [World.frozen?, h]
/-- All that was there is as it was, but for block C. -/
structure KX (C : Nat) (w w' : World) : Prop where
  os : w'.os = w.os
  tape : w'.tape = w.tape
  output : w'.output = w.output
  size : w.heap.size ≤ w'.heap.size
  blk : ∀ g, g ≠ C → g < w.heap.size → w'.heap[g]? = w.heap[g]?
theorem KX.refl (C : Nat) (w : World) : KX C w w := ⟨rfl, rfl, rfl, Nat.le_refl _, fun _ _ _ => rfl⟩
theorem KX.trans {C : Nat} {a b c : World} (h : KX C a b) (k : KX C b c) : KX C a c := ⟨k.os.trans h.os, k.tape.trans h.tape, k.output.trans h.output, Nat.le_trans h.size k.size, fun g hg hs => (k.blk g hg (Nat.lt_of_lt_of_le hs h.size)).trans (h.blk g hg hs)⟩
theorem KX.of_below {C B : Nat} {w w' : World} (h : Below B w w') (hB : w.heap.size ≤ B) : KX C w w' := ⟨h.os, h.tape, h.output, h.size, fun g _ hs => h.block g (by omega)⟩
theorem KX.below {C B : Nat} {w w' : World} (h : KX C w w') (hC : B ≤ C) (hB : B ≤ w.heap.size) : Below B w w' := ⟨h.os, h.tape, h.output, h.size, fun g hg => h.blk g (by omega) (by omega)⟩
theorem MvO.kx {w w' : World} {R o : Nat} {P : Nat → Prop} {l : List UInt8} {e : Int} (h : MvO w w' R o P l e) : KX R w w' := ⟨h.bel.os, h.bel.tape, h.bel.output, by rw [h.size]; exact Nat.le_refl _, fun g hg _ => h.blk g hg⟩
theorem KX.set {w : World} {C o : Nat} (v : Value) : KX C w (w.setCell ⟨C, o, none⟩ v) := ⟨rfl, rfl, rfl, by simp [World.setCell], fun g hg _ => Below.heap_setCell _ _ _ _ hg⟩
theorem KX.alloc {w : World} {C : Nat} (o : Obj) : KX C w (w.alloc o) := KX.of_below ((Below.refl _ _).alloc (Nat.le_refl _) _) (Nat.le_refl _)
/-- A Reader stays where its cells do. -/
theorem RdO.kept {w w' : World} {R o : Nat} {P : Nat → Prop} {l : List UInt8} {e : Int} (h : RdO w R o P l e) (hs : w.heap.size ≤ w'.heap.size) (h0 : w'.cell? ⟨R, o, none⟩ = w.cell? ⟨R, o, none⟩) (h1 : w'.cell? ⟨R, o + 1, none⟩ = w.cell? ⟨R, o + 1, none⟩) (f0 : w'.frozen? ⟨R, o, none⟩ = w.frozen? ⟨R, o, none⟩) (f1 : w'.frozen? ⟨R, o + 1, none⟩ = w.frozen? ⟨R, o + 1, none⟩) (hb : ∀ g, g ≠ R → g < w.heap.size → w'.heap[g]? = w.heap[g]?) : RdO w' R o P l e := by
  obtain ⟨hP, A, c, c0, c1, g0, g1, hc, hn⟩ := h
  exact ⟨fun b hb' => ⟨(hP b hb').1, Nat.lt_of_lt_of_le (hP b hb').2 hs⟩, A, c, h0.trans c0, h1.trans c1, f0.trans g0, f1.trans g1, hc, hn.keep fun p hp => by
    obtain ⟨b, off, s⟩ := p
    have := hb b (hP b hp).1 (hP b hp).2
    simp [World.cell?, this]⟩
/-- A cursor at block C: its state. -/
structure Cur (G : Nat → Prop) (w : World) (C : Nat) (st : PS) : Prop where
  sk : w.cell? ⟨C, 0, none⟩ = some (.int .i64 st.sk)
  rb : ∃ (P : Nat → Prop) (l : List UInt8) (e : Int), RdO w C 1 P l e ∧ (e = 0 ∨ e = 2) ∧ (st.bb = if e = 0 then some l else none) ∧ l.length ≤ 10000 ∧ ∀ b, G b → ¬ P b
  bh : w.cell? ⟨C, 3, none⟩ = some (.int .i64 st.bh)
  la : w.cell? ⟨C, 4, none⟩ = some (.int .i64 st.la)
  rk : ∃ (P : Nat → Prop) (l : List UInt8) (e : Int), RdO w C 5 P l e ∧ (0 < st.he → e = 0 ∧ l = st.kb) ∧ l.length ≤ 10000 ∧ ∀ b, G b → ¬ P b
  he : w.cell? ⟨C, 7, none⟩ = some (.int .i64 st.he)
  dc : ∃ d : Int, w.cell? ⟨C, 8, none⟩ = some (.int .i64 d) ∧ (0 < st.he → d = st.dc)
  fr : ∀ k, w.frozen? ⟨C, k, none⟩ = false
  b1 : st.bh ≤ 1000
  b2 : st.he ≤ 4
  b3 : st.la + 1000 * st.bh ≤ 2001000
  b4 : 0 < st.he → st.dc + 1000 * st.he ≤ 4000000
  b5 : st.sk + st.bh ≤ 2000
  b6 : st.bb.isSome = true → st.la + 1000 * st.bh ≤ 2000000
theorem Cur.lt {G : Nat → Prop} {w : World} {C : Nat} {st : PS} (h : Cur G w C st) : C < w.heap.size := World.block_lt_of_cell? w _ h.sk
/-- What is elsewhere turned does not matter. -/
theorem Cur.elsewhere {G : Nat → Prop} {w w' : World} {C : Nat} {st : PS} (h : Cur G w C st) (hs : w.heap.size ≤ w'.heap.size) (hb : ∀ g, g < w.heap.size → w'.heap[g]? = w.heap[g]?) : Cur G w' C st := by
  have hc := hb C h.lt
  have e : ∀ k, w'.cell? ⟨C, k, none⟩ = w.cell? ⟨C, k, none⟩ := fun k => cellH hc
  have f : ∀ k, w'.frozen? ⟨C, k, none⟩ = w.frozen? ⟨C, k, none⟩ := fun k => frozH hc
  obtain ⟨P, l, er, r, h1, h2, h3⟩ := h.rb
  obtain ⟨P2, l2, er2, r2, h4, h5⟩ := h.rk
  obtain ⟨d, d1, d2⟩ := h.dc
  exact ⟨(e 0).trans h.sk, ⟨P, l, er, r.kept hs (e _) (e _) (f _) (f _) fun g _ hg => hb g hg, h1, h2, h3⟩, (e 3).trans h.bh, (e 4).trans h.la, ⟨P2, l2, er2, r2.kept hs (e _) (e _) (f _) (f _) fun g _ hg => hb g hg, h4, h5⟩, (e 7).trans h.he, ⟨d, (e 8).trans d1, d2⟩, fun k => (f k).trans (h.fr k), h.b1, h.b2, h.b3, h.b4, h.b5, h.b6⟩
theorem Cur.below {G : Nat → Prop} {w w' : World} {C : Nat} {st : PS} (h : Cur G w C st) (hb : Below w.heap.size w w') : Cur G w' C st := h.elsewhere hb.size fun g hg => hb.block g hg
theorem so {w : World} {C j k : Nat} {v : Value} (h : j ≠ k) : (w.setCell ⟨C, k, none⟩ v).cell? ⟨C, j, none⟩ = w.cell? ⟨C, j, none⟩ := World.cell?_setCell_other _ _ _ _ (by intro e; injection e with _ e; omega)
theorem RdO.set {w : World} {C o k : Nat} {P : Nat → Prop} {l : List UInt8} {e : Int} (h : RdO w C o P l e) (h1 : o ≠ k) (h2 : o + 1 ≠ k) (v : Value) : RdO (w.setCell ⟨C, k, none⟩ v) C o P l e :=
  h.kept (by simp [World.setCell]) (so h1) (so h2) (by simp) (by simp) (fun g hg _ => Below.heap_setCell _ _ _ _ hg)
/-- A cursor's cells as they stand. -/
structure CM (w : World) (C : Nat) (sk bh la he dc : Int) (P1 : Nat → Prop) (l1 : List UInt8) (e1 : Int) (P2 : Nat → Prop) (l2 : List UInt8) (e2 : Int) : Prop where
  c0 : w.cell? ⟨C, 0, none⟩ = some (.int .i64 sk)
  r1 : RdO w C 1 P1 l1 e1
  c3 : w.cell? ⟨C, 3, none⟩ = some (.int .i64 bh)
  c4 : w.cell? ⟨C, 4, none⟩ = some (.int .i64 la)
  r5 : RdO w C 5 P2 l2 e2
  c7 : w.cell? ⟨C, 7, none⟩ = some (.int .i64 he)
  c8 : w.cell? ⟨C, 8, none⟩ = some (.int .i64 dc)
  fr : ∀ k, w.frozen? ⟨C, k, none⟩ = false
theorem CM.lt {w : World} {C : Nat} {sk bh la he dc : Int} {P1 : Nat → Prop} {l1 : List UInt8} {e1 : Int} {P2 : Nat → Prop} {l2 : List UInt8} {e2 : Int} (h : CM w C sk bh la he dc P1 l1 e1 P2 l2 e2) : C < w.heap.size := World.block_lt_of_cell? w _ h.c0
theorem CM.mv1 {w w' : World} {C : Nat} {sk bh la he dc : Int} {P1 : Nat → Prop} {l1 : List UInt8} {e1 : Int} {P2 : Nat → Prop} {l2 : List UInt8} {e2 : Int} {l' : List UInt8} {e' : Int} (h : CM w C sk bh la he dc P1 l1 e1 P2 l2 e2) (m : MvO w w' C 1 P1 l' e') : CM w' C sk bh la he dc P1 l' e' P2 l2 e2 :=
  ⟨(m.cel 0 (by decide) (by decide)).trans h.c0, m.rd, (m.cel 3 (by decide) (by decide)).trans h.c3, (m.cel 4 (by decide) (by decide)).trans h.c4,
    h.r5.kept (by rw [m.size]; exact Nat.le_refl _) (m.cel 5 (by decide) (by decide)) (m.cel 6 (by decide) (by decide)) (m.frz _) (m.frz _) (fun g hg _ => m.blk g hg), (m.cel 7 (by decide) (by decide)).trans h.c7, (m.cel 8 (by decide) (by decide)).trans h.c8, fun k => (m.frz _).trans (h.fr k)⟩
theorem CM.mv5 {w w' : World} {C : Nat} {sk bh la he dc : Int} {P1 : Nat → Prop} {l1 : List UInt8} {e1 : Int} {P2 : Nat → Prop} {l2 : List UInt8} {e2 : Int} {l' : List UInt8} {e' : Int} (h : CM w C sk bh la he dc P1 l1 e1 P2 l2 e2) (m : MvO w w' C 5 P2 l' e') : CM w' C sk bh la he dc P1 l1 e1 P2 l' e' :=
  ⟨(m.cel 0 (by decide) (by decide)).trans h.c0, h.r1.kept (by rw [m.size]; exact Nat.le_refl _) (m.cel 1 (by decide) (by decide)) (m.cel 2 (by decide) (by decide)) (m.frz _) (m.frz _) (fun g hg _ => m.blk g hg), (m.cel 3 (by decide) (by decide)).trans h.c3, (m.cel 4 (by decide) (by decide)).trans h.c4,
    m.rd, (m.cel 7 (by decide) (by decide)).trans h.c7, (m.cel 8 (by decide) (by decide)).trans h.c8, fun k => (m.frz _).trans (h.fr k)⟩
theorem CM.elsewhere {w w' : World} {C : Nat} {sk bh la he dc : Int} {P1 : Nat → Prop} {l1 : List UInt8} {e1 : Int} {P2 : Nat → Prop} {l2 : List UInt8} {e2 : Int} (h : CM w C sk bh la he dc P1 l1 e1 P2 l2 e2) (hs : w.heap.size ≤ w'.heap.size) (hb : ∀ g, g < w.heap.size → w'.heap[g]? = w.heap[g]?) : CM w' C sk bh la he dc P1 l1 e1 P2 l2 e2 := by
  have hc := hb C h.lt
  have e : ∀ k, w'.cell? ⟨C, k, none⟩ = w.cell? ⟨C, k, none⟩ := fun k => cellH hc
  have f : ∀ k, w'.frozen? ⟨C, k, none⟩ = w.frozen? ⟨C, k, none⟩ := fun k => frozH hc
  exact ⟨(e 0).trans h.c0, h.r1.kept hs (e _) (e _) (f _) (f _) fun g _ hg => hb g hg, (e 3).trans h.c3, (e 4).trans h.c4, h.r5.kept hs (e _) (e _) (f _) (f _) fun g _ hg => hb g hg, (e 7).trans h.c7, (e 8).trans h.c8, fun k => (f k).trans (h.fr k)⟩
theorem CM.below {w w' : World} {C : Nat} {sk bh la he dc : Int} {P1 : Nat → Prop} {l1 : List UInt8} {e1 : Int} {P2 : Nat → Prop} {l2 : List UInt8} {e2 : Int} (h : CM w C sk bh la he dc P1 l1 e1 P2 l2 e2) (hb : Below w.heap.size w w') : CM w' C sk bh la he dc P1 l1 e1 P2 l2 e2 := h.elsewhere hb.size fun g hg => hb.block g hg
theorem CM.set0 {w : World} {C : Nat} {sk bh la he dc : Int} {P1 : Nat → Prop} {l1 : List UInt8} {e1 : Int} {P2 : Nat → Prop} {l2 : List UInt8} {e2 : Int} (h : CM w C sk bh la he dc P1 l1 e1 P2 l2 e2) (x : Int) : CM (w.setCell ⟨C, 0, none⟩ (.int .i64 x)) C x bh la he dc P1 l1 e1 P2 l2 e2 :=
  ⟨World.cell?_setCell_same _ _ _ (by rw [h.c0]), h.r1.set (by decide) (by decide) _, (so (by decide)).trans h.c3, (so (by decide)).trans h.c4, h.r5.set (by decide) (by decide) _, (so (by decide)).trans h.c7, (so (by decide)).trans h.c8, fun j => by simpa using h.fr j⟩
theorem CM.set3 {w : World} {C : Nat} {sk bh la he dc : Int} {P1 : Nat → Prop} {l1 : List UInt8} {e1 : Int} {P2 : Nat → Prop} {l2 : List UInt8} {e2 : Int} (h : CM w C sk bh la he dc P1 l1 e1 P2 l2 e2) (x : Int) : CM (w.setCell ⟨C, 3, none⟩ (.int .i64 x)) C sk x la he dc P1 l1 e1 P2 l2 e2 :=
  ⟨(so (by decide)).trans h.c0, h.r1.set (by decide) (by decide) _, World.cell?_setCell_same _ _ _ (by rw [h.c3]), (so (by decide)).trans h.c4, h.r5.set (by decide) (by decide) _, (so (by decide)).trans h.c7, (so (by decide)).trans h.c8, fun j => by simpa using h.fr j⟩
theorem CM.set4 {w : World} {C : Nat} {sk bh la he dc : Int} {P1 : Nat → Prop} {l1 : List UInt8} {e1 : Int} {P2 : Nat → Prop} {l2 : List UInt8} {e2 : Int} (h : CM w C sk bh la he dc P1 l1 e1 P2 l2 e2) (x : Int) : CM (w.setCell ⟨C, 4, none⟩ (.int .i64 x)) C sk bh x he dc P1 l1 e1 P2 l2 e2 :=
  ⟨(so (by decide)).trans h.c0, h.r1.set (by decide) (by decide) _, (so (by decide)).trans h.c3, World.cell?_setCell_same _ _ _ (by rw [h.c4]), h.r5.set (by decide) (by decide) _, (so (by decide)).trans h.c7, (so (by decide)).trans h.c8, fun j => by simpa using h.fr j⟩
theorem CM.set7 {w : World} {C : Nat} {sk bh la he dc : Int} {P1 : Nat → Prop} {l1 : List UInt8} {e1 : Int} {P2 : Nat → Prop} {l2 : List UInt8} {e2 : Int} (h : CM w C sk bh la he dc P1 l1 e1 P2 l2 e2) (x : Int) : CM (w.setCell ⟨C, 7, none⟩ (.int .i64 x)) C sk bh la x dc P1 l1 e1 P2 l2 e2 :=
  ⟨(so (by decide)).trans h.c0, h.r1.set (by decide) (by decide) _, (so (by decide)).trans h.c3, (so (by decide)).trans h.c4, h.r5.set (by decide) (by decide) _, World.cell?_setCell_same _ _ _ (by rw [h.c7]), (so (by decide)).trans h.c8, fun j => by simpa using h.fr j⟩
theorem CM.set8 {w : World} {C : Nat} {sk bh la he dc : Int} {P1 : Nat → Prop} {l1 : List UInt8} {e1 : Int} {P2 : Nat → Prop} {l2 : List UInt8} {e2 : Int} (h : CM w C sk bh la he dc P1 l1 e1 P2 l2 e2) (x : Int) : CM (w.setCell ⟨C, 8, none⟩ (.int .i64 x)) C sk bh la he x P1 l1 e1 P2 l2 e2 :=
  ⟨(so (by decide)).trans h.c0, h.r1.set (by decide) (by decide) _, (so (by decide)).trans h.c3, (so (by decide)).trans h.c4, h.r5.set (by decide) (by decide) _, (so (by decide)).trans h.c7, World.cell?_setCell_same _ _ _ (by rw [h.c8]), fun j => by simpa using h.fr j⟩
theorem Cur.cm {G : Nat → Prop} {w : World} {C : Nat} {st : PS} (h : Cur G w C st) : ∃ (d : Int) (P1 : Nat → Prop) (l1 : List UInt8) (e1 : Int) (P2 : Nat → Prop) (l2 : List UInt8) (e2 : Int), CM w C st.sk st.bh st.la st.he d P1 l1 e1 P2 l2 e2 ∧
    (e1 = 0 ∨ e1 = 2) ∧ (st.bb = if e1 = 0 then some l1 else none) ∧ l1.length ≤ 10000 ∧ (0 < st.he → e2 = 0 ∧ l2 = st.kb) ∧ l2.length ≤ 10000 ∧ (0 < st.he → d = st.dc) ∧ (∀ b, G b → ¬ P1 b) ∧ (∀ b, G b → ¬ P2 b) := by
  obtain ⟨P1, l1, e1, r1, h1, h2, h3, n1⟩ := h.rb
  obtain ⟨P2, l2, e2, r2, h4, h5, n2⟩ := h.rk
  obtain ⟨d, d1, d2⟩ := h.dc
  exact ⟨d, P1, l1, e1, P2, l2, e2, ⟨h.sk, r1, h.bh, h.la, r2, h.he, d1, h.fr⟩, h1, h2, h3, h4, h5, d2, n1, n2⟩
theorem CM.cur {G : Nat → Prop} {w : World} {C : Nat} {st : PS} {d : Int} {P1 : Nat → Prop} {l1 : List UInt8} {e1 : Int} {P2 : Nat → Prop} {l2 : List UInt8} {e2 : Int} (h : CM w C st.sk st.bh st.la st.he d P1 l1 e1 P2 l2 e2)
    (h1 : e1 = 0 ∨ e1 = 2) (h2 : st.bb = if e1 = 0 then some l1 else none) (h3 : l1.length ≤ 10000) (h4 : 0 < st.he → e2 = 0 ∧ l2 = st.kb) (h5 : l2.length ≤ 10000) (h6 : 0 < st.he → d = st.dc)
    (b1 : st.bh ≤ 1000) (b2 : st.he ≤ 4) (b3 : st.la + 1000 * st.bh ≤ 2001000) (b4 : 0 < st.he → st.dc + 1000 * st.he ≤ 4000000) (b5 : st.sk + st.bh ≤ 2000) (b6 : st.bb.isSome = true → st.la + 1000 * st.bh ≤ 2000000) (n1 : ∀ b, G b → ¬ P1 b) (n2 : ∀ b, G b → ¬ P2 b) : Cur G w C st :=
  ⟨h.c0, ⟨P1, l1, e1, h.r1, h1, h2, h3, n1⟩, h.c3, h.c4, ⟨P2, l2, e2, h.r5, h4, h5, n2⟩, h.c7, ⟨d, h.c8, h6⟩, h.fr, b1, b2, b3, b4, b5, b6⟩
theorem RdO.kept2 {w w' : World} {R o : Nat} {P : Nat → Prop} {l : List UInt8} {e : Int} (h : RdO w R o P l e) (hs : w.heap.size ≤ w'.heap.size) (h0 : w'.heap[R]? = w.heap[R]?) (hb : ∀ g, P g → w'.heap[g]? = w.heap[g]?) : RdO w' R o P l e := by
  obtain ⟨hP, A, c, c0, c1, g0, g1, hc, hn⟩ := h
  exact ⟨fun b hb' => ⟨(hP b hb').1, Nat.lt_of_lt_of_le (hP b hb').2 hs⟩, A, c, (cellH h0).trans c0, (cellH h0).trans c1, (frozH h0).trans g0, (frozH h0).trans g1, hc, hn.keep fun p hp => by
    obtain ⟨b, off, s⟩ := p
    have := hb b hp
    simp [World.cell?, this]⟩
/-- A store into a block that is none of the cursor's, nor of its bytes. -/
theorem CM.res {w : World} {C : Nat} {sk bh la he dc : Int} {P1 : Nat → Prop} {l1 : List UInt8} {e1 : Int} {P2 : Nat → Prop} {l2 : List UInt8} {e2 : Int} (h : CM w C sk bh la he dc P1 l1 e1 P2 l2 e2) (g k : Nat) (v : Value) (h1 : g ≠ C) (h2 : ¬ P1 g) (h3 : ¬ P2 g) : CM (w.setCell ⟨g, k, none⟩ v) C sk bh la he dc P1 l1 e1 P2 l2 e2 := by
  have hb : ∀ b, b ≠ g → (w.setCell ⟨g, k, none⟩ v).heap[b]? = w.heap[b]? := fun b hb => Below.heap_setCell _ _ _ _ hb
  have hc := hb C h1.symm
  have hs : w.heap.size ≤ (w.setCell ⟨g, k, none⟩ v).heap.size := by simp [World.setCell]
  have e : ∀ k', (w.setCell ⟨g, k, none⟩ v).cell? ⟨C, k', none⟩ = w.cell? ⟨C, k', none⟩ := fun k' => cellH hc
  have f : ∀ k', (w.setCell ⟨g, k, none⟩ v).frozen? ⟨C, k', none⟩ = w.frozen? ⟨C, k', none⟩ := fun k' => frozH hc
  exact ⟨(e 0).trans h.c0, h.r1.kept2 hs hc fun b hp => hb b (fun e => h2 (e ▸ hp)), (e 3).trans h.c3, (e 4).trans h.c4, h.r5.kept2 hs hc fun b hp => hb b (fun e => h3 (e ▸ hp)), (e 7).trans h.c7, (e 8).trans h.c8, fun k' => (f k').trans (h.fr k')⟩
end Go.Proofs.Ytjigaoclngfcaaa
