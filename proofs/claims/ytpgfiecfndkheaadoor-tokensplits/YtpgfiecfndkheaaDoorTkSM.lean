/- The page's own split in memory: six boxes, three rows. -/
import Derived.Test.YtpgfiecfndkheaaDoorTkSpl
namespace Go.Proofs.YtpgfiecfndkheaaDoor
open Go.RowKit
set_option maxRecDepth 100000

structure SM (w : World) (H : Nat) (W : List B8) (Sn Pn : List Nat) (g d : B8) (c : Bool) (v0 v1 v2 : Value) : Prop where
  lt : H + 8 < w.heap.size
  cw : w.cell? ⟨H + 1, 0, none⟩ = some v0
  cs : w.cell? ⟨H + 3, 0, none⟩ = some v1
  cp : w.cell? ⟨H + 5, 0, none⟩ = some v2
  cg : w.cell? ⟨H + 6, 0, none⟩ = some (.string (strOf g))
  cd : w.cell? ⟨H + 7, 0, none⟩ = some (.string (strOf d))
  cc : w.cell? ⟨H + 8, 0, none⟩ = some (.bool c)
  fr : ∀ k, (k = 1 ∨ k = 3 ∨ k = 5 ∨ k = 6 ∨ k = 7 ∨ k = 8) → w.frozen? ⟨H + k, 0, none⟩ = false
  r0 : w.ownsRow H 9 1 v0 W.length (tCells W)
  r1 : w.ownsRow H 3 1 v1 Sn.length (nCells Sn)
  r2 : w.ownsRow H 3 1 v2 Pn.length (nCells Pn)
  n0 : ∀ b, v0.ownBlock = some b → b = H ∨ H + 9 ≤ b
  n1 : ∀ b, v1.ownBlock = some b → b = H + 2 ∨ H + 9 ≤ b
  n2 : ∀ b, v2.ownBlock = some b → b = H + 4 ∨ H + 9 ≤ b
  d01 : ∀ b, v0.ownBlock = some b → v1.ownBlock ≠ some b
  d02 : ∀ b, v0.ownBlock = some b → v2.ownBlock ≠ some b
  d12 : ∀ b, v1.ownBlock = some b → v2.ownBlock ≠ some b
theorem SM.keep {w w' : World} {H : Nat} {W : List B8} {Sn Pn : List Nat} {g d : B8} {c : Bool} {v0 v1 v2 : Value} (h : SM w H W Sn Pn g d c v0 v1 v2) (hs : w.heap.size ≤ w'.heap.size) (hk : ∀ b, H ≤ b → b < w.heap.size → w'.heap[b]? = w.heap[b]?) : SM w' H W Sn Pn g d c v0 v1 v2 := by
  have hl := h.lt
  have cell : ∀ k v, k ≤ 8 → w.cell? ⟨H + k, 0, none⟩ = some v → w'.cell? ⟨H + k, 0, none⟩ = some v := fun k v hk8 hc => (World.cell?_of_block (w := w) (a := ⟨H + k, 0, none⟩) (hk (H + k) (by omega) (by omega))).trans hc
  exact ⟨by omega, cell 1 _ (by omega) h.cw, cell 3 _ (by omega) h.cs, cell 5 _ (by omega) h.cp, cell 6 _ (by omega) h.cg, cell 7 _ (by omega) h.cd, cell 8 _ (by omega) h.cc,
    fun k hk8 => (World.frozen?_of_block (w := w) (a := ⟨H + k, 0, none⟩) (hk (H + k) (by omega) (by omega))).trans (h.fr k hk8), own_at h.r0 fun b _ h1 h2 => hk b h1 h2, own_at h.r1 fun b _ h1 h2 => hk b h1 h2, own_at h.r2 fun b _ h1 h2 => hk b h1 h2, h.n0, h.n1, h.n2, h.d01, h.d02, h.d12⟩
theorem SM.below {w w' : World} {H : Nat} {W : List B8} {Sn Pn : List Nat} {g d : B8} {c : Bool} {v0 v1 v2 : Value} (h : SM w H W Sn Pn g d c v0 v1 v2) (hb : Below w.heap.size w w') : SM w' H W Sn Pn g d c v0 v1 v2 := h.keep hb.size fun b _ h2 => hb.block b h2
theorem cell_far (w : World) (b b' : Nat) (u : Value) (h : b' ≠ b) : (w.setCell ⟨b, 0, none⟩ u).cell? ⟨b', 0, none⟩ = w.cell? ⟨b', 0, none⟩ := World.cell?_setCell_other _ _ _ _ (by intro e; injection e with e; exact h e.symm)
theorem row_far {w : World} {B : Nat} {t : TypeId} {v : Value} {n : Nat} {xs : List Value} (h : w.ownsRow B t 1 v n xs) (b : Nat) (u : Value) (hb : v.ownBlock ≠ some b) : (w.setCell ⟨b, 0, none⟩ u).ownsRow B t 1 v n xs :=
  own_at h fun g hv _ _ => Below.heap_setCell w ⟨b, 0, none⟩ u g (by show g ≠ b; intro e; rw [e] at hv; exact hb hv)
theorem fr_set (w : World) (b b' : Nat) (u : Value) (h : w.frozen? ⟨b', 0, none⟩ = false) : (w.setCell ⟨b, 0, none⟩ u).frozen? ⟨b', 0, none⟩ = false := by simpa using h
section
variable {w : World} {H : Nat} {W : List B8} {Sn Pn : List Nat} {g d : B8} {c : Bool} {v0 v1 v2 : Value}
theorem SM.ne (h : SM w H W Sn Pn g d c v0 v1 v2) (k : Nat) (hk : k = 1 ∨ k = 3 ∨ k = 5 ∨ k = 6 ∨ k = 7 ∨ k = 8) : v0.ownBlock ≠ some (H + k) ∧ v1.ownBlock ≠ some (H + k) ∧ v2.ownBlock ≠ some (H + k) :=
  ⟨fun e => by have := h.n0 _ e; omega, fun e => by have := h.n1 _ e; omega, fun e => by have := h.n2 _ e; omega⟩
theorem SM.size_set (h : SM w H W Sn Pn g d c v0 v1 v2) (b : Nat) (u : Value) : H + 8 < (w.setCell ⟨b, 0, none⟩ u).heap.size := by have := h.lt; simpa [World.setCell] using this
theorem SM.setGap (h : SM w H W Sn Pn g d c v0 v1 v2) (g' : B8) : SM (w.setCell ⟨H + 6, 0, none⟩ (.string (strOf g'))) H W Sn Pn g' d c v0 v1 v2 := by
  obtain ⟨e0, e1, e2⟩ := h.ne 6 (by omega)
  exact ⟨h.size_set _ _, (cell_far _ _ _ _ (by omega)).trans h.cw, (cell_far _ _ _ _ (by omega)).trans h.cs, (cell_far _ _ _ _ (by omega)).trans h.cp, World.cell?_setCell_same _ _ _ (by rw [h.cg]), (cell_far _ _ _ _ (by omega)).trans h.cd, (cell_far _ _ _ _ (by omega)).trans h.cc,
    fun k hk => fr_set _ _ _ _ (h.fr k hk), row_far h.r0 _ _ e0, row_far h.r1 _ _ e1, row_far h.r2 _ _ e2, h.n0, h.n1, h.n2, h.d01, h.d02, h.d12⟩
theorem SM.setWord (h : SM w H W Sn Pn g d c v0 v1 v2) (d' : B8) : SM (w.setCell ⟨H + 7, 0, none⟩ (.string (strOf d'))) H W Sn Pn g d' c v0 v1 v2 := by
  obtain ⟨e0, e1, e2⟩ := h.ne 7 (by omega)
  exact ⟨h.size_set _ _, (cell_far _ _ _ _ (by omega)).trans h.cw, (cell_far _ _ _ _ (by omega)).trans h.cs, (cell_far _ _ _ _ (by omega)).trans h.cp, (cell_far _ _ _ _ (by omega)).trans h.cg, World.cell?_setCell_same _ _ _ (by rw [h.cd]), (cell_far _ _ _ _ (by omega)).trans h.cc,
    fun k hk => fr_set _ _ _ _ (h.fr k hk), row_far h.r0 _ _ e0, row_far h.r1 _ _ e1, row_far h.r2 _ _ e2, h.n0, h.n1, h.n2, h.d01, h.d02, h.d12⟩
theorem SM.setCut (h : SM w H W Sn Pn g d c v0 v1 v2) (c' : Bool) : SM (w.setCell ⟨H + 8, 0, none⟩ (.bool c')) H W Sn Pn g d c' v0 v1 v2 := by
  obtain ⟨e0, e1, e2⟩ := h.ne 8 (by omega)
  exact ⟨h.size_set _ _, (cell_far _ _ _ _ (by omega)).trans h.cw, (cell_far _ _ _ _ (by omega)).trans h.cs, (cell_far _ _ _ _ (by omega)).trans h.cp, (cell_far _ _ _ _ (by omega)).trans h.cg, (cell_far _ _ _ _ (by omega)).trans h.cd, World.cell?_setCell_same _ _ _ (by rw [h.cc]),
    fun k hk => fr_set _ _ _ _ (h.fr k hk), row_far h.r0 _ _ e0, row_far h.r1 _ _ e1, row_far h.r2 _ _ e2, h.n0, h.n1, h.n2, h.d01, h.d02, h.d12⟩
theorem set_low {a : World} {B : Nat} (h : Below B a w) (b : Nat) (hb : B ≤ b) (u : Value) : Below B a (w.setCell ⟨b, 0, none⟩ u) := h.setCell (p := ⟨b, 0, none⟩) hb u
theorem SM.cells (h : SM w H W Sn Pn g d c v0 v1 v2) {w' : World} (row : Option Nat) (hg : w.grownBy w' row) (hr : ∀ b, row = some b → b = H ∨ b = H + 2 ∨ b = H + 4 ∨ H + 9 ≤ b) :
    (∀ k v, (k = 1 ∨ k = 3 ∨ k = 5 ∨ k = 6 ∨ k = 7 ∨ k = 8) → w.cell? ⟨H + k, 0, none⟩ = some v → w'.cell? ⟨H + k, 0, none⟩ = some v) ∧ (∀ k, (k = 1 ∨ k = 3 ∨ k = 5 ∨ k = 6 ∨ k = 7 ∨ k = 8) → w'.frozen? ⟨H + k, 0, none⟩ = false) := by
  have hl := h.lt
  have blk : ∀ k, (k = 1 ∨ k = 3 ∨ k = 5 ∨ k = 6 ∨ k = 7 ∨ k = 8) → w'.heap[H + k]? = w.heap[H + k]? := fun k hk => hg.block _ (by omega) (fun e => by have := hr _ e.symm; omega)
  exact ⟨fun k v hk hc => (World.cell?_of_block (w := w) (a := ⟨H + k, 0, none⟩) (blk k hk)).trans hc, fun k hk => (World.frozen?_of_block (w := w) (a := ⟨H + k, 0, none⟩) (blk k hk)).trans (h.fr k hk)⟩
end
theorem SM.grow0 {w w' : World} {H : Nat} {W : List B8} {Sn Pn : List Nat} {g d : B8} {c : Bool} {v0 v1 v2 v' : Value} {L' : List B8} (h : SM w H W Sn Pn g d c v0 v1 v2) (hg : w.grownBy w' v0.ownBlock) (ho : w'.ownsRow H 9 1 v' L'.length (tCells L')) (hb : v'.ownBlock = v0.ownBlock ∨ v'.ownBlock = some w.heap.size) :
    w'.cell? ⟨H + 1, 0, none⟩ = some v0 ∧ w'.frozen? ⟨H + 1, 0, none⟩ = false ∧ Below H w (w'.setCell ⟨H + 1, 0, none⟩ v') ∧ SM (w'.setCell ⟨H + 1, 0, none⟩ v') H L' Sn Pn g d c v' v1 v2 := by
  have hl := h.lt
  obtain ⟨hc, hf⟩ := h.cells _ hg (fun b hb => by have := h.n0 b hb; omega)
  have e0 := hc 1 _ (by omega) h.cw
  have hb1 : Below H w w' := (Below.refl H w).grown hg (by omega) fun k hk => (own_lt h.r0 k hk).1
  have hn' : ∀ b, v'.ownBlock = some b → b = H ∨ H + 9 ≤ b := fun b e => by
    rcases hb with e2 | e2
    · exact h.n0 b (e2.symm.trans e)
    · rw [e2] at e; injection e with e; omega
  have hv' : v'.ownBlock ≠ some (H + 1) := fun e => by have := hn' _ e; omega
  have hs := hg.size
  refine ⟨e0, hf 1 (by omega), hb1.setCell (p := ⟨H + 1, 0, none⟩) (by show H ≤ H + 1; omega) v', ⟨?_, World.cell?_setCell_same _ _ _ (by rw [e0]), (cell_far _ _ _ _ (by omega)).trans (hc 3 _ (by omega) h.cs), (cell_far _ _ _ _ (by omega)).trans (hc 5 _ (by omega) h.cp), (cell_far _ _ _ _ (by omega)).trans (hc 6 _ (by omega) h.cg), (cell_far _ _ _ _ (by omega)).trans (hc 7 _ (by omega) h.cd), (cell_far _ _ _ _ (by omega)).trans (hc 8 _ (by omega) h.cc),
    fun k hk => fr_set _ _ _ _ (hf k hk), row_far ho _ _ hv', row_far (own_at h.r1 fun b hv _ hl => hg.block b hl (fun e => ((fun b h1 h2 => h.d01 b h2 h1) : ∀ b, v1.ownBlock = some b → v0.ownBlock ≠ some b) b hv e.symm)) _ _ (h.ne 1 (by omega)).2.1, row_far (own_at h.r2 fun b hv _ hl => hg.block b hl (fun e => ((fun b h1 h2 => h.d02 b h2 h1) : ∀ b, v2.ownBlock = some b → v0.ownBlock ≠ some b) b hv e.symm)) _ _ (h.ne 1 (by omega)).2.2, hn', h.n1, h.n2, fun b h1 h2 => far_of (fun b hb => (own_lt h.r1 b hb).2) ((fun b h1 h2 => h.d01 b h2 h1) : ∀ b, v1.ownBlock = some b → v0.ownBlock ≠ some b) hb b h2 h1, fun b h1 h2 => far_of (fun b hb => (own_lt h.r2 b hb).2) ((fun b h1 h2 => h.d02 b h2 h1) : ∀ b, v2.ownBlock = some b → v0.ownBlock ≠ some b) hb b h2 h1, h.d12⟩⟩
  simpa [World.setCell] using Nat.lt_of_lt_of_le hl hs
theorem SM.grow1 {w w' : World} {H : Nat} {W : List B8} {Sn Pn : List Nat} {g d : B8} {c : Bool} {v0 v1 v2 v' : Value} {L' : List Nat} (h : SM w H W Sn Pn g d c v0 v1 v2) (hg : w.grownBy w' v1.ownBlock) (ho : w'.ownsRow H 3 1 v' L'.length (nCells L')) (hb : v'.ownBlock = v1.ownBlock ∨ v'.ownBlock = some w.heap.size) :
    w'.cell? ⟨H + 3, 0, none⟩ = some v1 ∧ w'.frozen? ⟨H + 3, 0, none⟩ = false ∧ Below H w (w'.setCell ⟨H + 3, 0, none⟩ v') ∧ SM (w'.setCell ⟨H + 3, 0, none⟩ v') H W L' Pn g d c v0 v' v2 := by
  have hl := h.lt
  obtain ⟨hc, hf⟩ := h.cells _ hg (fun b hb => by have := h.n1 b hb; omega)
  have e0 := hc 3 _ (by omega) h.cs
  have hb1 : Below H w w' := (Below.refl H w).grown hg (by omega) fun k hk => (own_lt h.r1 k hk).1
  have hn' : ∀ b, v'.ownBlock = some b → b = H + 2 ∨ H + 9 ≤ b := fun b e => by
    rcases hb with e2 | e2
    · exact h.n1 b (e2.symm.trans e)
    · rw [e2] at e; injection e with e; omega
  have hv' : v'.ownBlock ≠ some (H + 3) := fun e => by have := hn' _ e; omega
  have hs := hg.size
  refine ⟨e0, hf 3 (by omega), hb1.setCell (p := ⟨H + 3, 0, none⟩) (by show H ≤ H + 3; omega) v', ⟨?_, (cell_far _ _ _ _ (by omega)).trans (hc 1 _ (by omega) h.cw), World.cell?_setCell_same _ _ _ (by rw [e0]), (cell_far _ _ _ _ (by omega)).trans (hc 5 _ (by omega) h.cp), (cell_far _ _ _ _ (by omega)).trans (hc 6 _ (by omega) h.cg), (cell_far _ _ _ _ (by omega)).trans (hc 7 _ (by omega) h.cd), (cell_far _ _ _ _ (by omega)).trans (hc 8 _ (by omega) h.cc),
    fun k hk => fr_set _ _ _ _ (hf k hk), row_far (own_at h.r0 fun b hv _ hl => hg.block b hl (fun e => (h.d01 : ∀ b, v0.ownBlock = some b → v1.ownBlock ≠ some b) b hv e.symm)) _ _ (h.ne 3 (by omega)).1, row_far ho _ _ hv', row_far (own_at h.r2 fun b hv _ hl => hg.block b hl (fun e => ((fun b h1 h2 => h.d12 b h2 h1) : ∀ b, v2.ownBlock = some b → v1.ownBlock ≠ some b) b hv e.symm)) _ _ (h.ne 3 (by omega)).2.2, h.n0, hn', h.n2, far_of (fun b hb => (own_lt h.r0 b hb).2) (h.d01 : ∀ b, v0.ownBlock = some b → v1.ownBlock ≠ some b) hb, h.d02, fun b h1 h2 => far_of (fun b hb => (own_lt h.r2 b hb).2) ((fun b h1 h2 => h.d12 b h2 h1) : ∀ b, v2.ownBlock = some b → v1.ownBlock ≠ some b) hb b h2 h1⟩⟩
  simpa [World.setCell] using Nat.lt_of_lt_of_le hl hs
theorem SM.grow2 {w w' : World} {H : Nat} {W : List B8} {Sn Pn : List Nat} {g d : B8} {c : Bool} {v0 v1 v2 v' : Value} {L' : List Nat} (h : SM w H W Sn Pn g d c v0 v1 v2) (hg : w.grownBy w' v2.ownBlock) (ho : w'.ownsRow H 3 1 v' L'.length (nCells L')) (hb : v'.ownBlock = v2.ownBlock ∨ v'.ownBlock = some w.heap.size) :
    w'.cell? ⟨H + 5, 0, none⟩ = some v2 ∧ w'.frozen? ⟨H + 5, 0, none⟩ = false ∧ Below H w (w'.setCell ⟨H + 5, 0, none⟩ v') ∧ SM (w'.setCell ⟨H + 5, 0, none⟩ v') H W Sn L' g d c v0 v1 v' := by
  have hl := h.lt
  obtain ⟨hc, hf⟩ := h.cells _ hg (fun b hb => by have := h.n2 b hb; omega)
  have e0 := hc 5 _ (by omega) h.cp
  have hb1 : Below H w w' := (Below.refl H w).grown hg (by omega) fun k hk => (own_lt h.r2 k hk).1
  have hn' : ∀ b, v'.ownBlock = some b → b = H + 4 ∨ H + 9 ≤ b := fun b e => by
    rcases hb with e2 | e2
    · exact h.n2 b (e2.symm.trans e)
    · rw [e2] at e; injection e with e; omega
  have hv' : v'.ownBlock ≠ some (H + 5) := fun e => by have := hn' _ e; omega
  have hs := hg.size
  refine ⟨e0, hf 5 (by omega), hb1.setCell (p := ⟨H + 5, 0, none⟩) (by show H ≤ H + 5; omega) v', ⟨?_, (cell_far _ _ _ _ (by omega)).trans (hc 1 _ (by omega) h.cw), (cell_far _ _ _ _ (by omega)).trans (hc 3 _ (by omega) h.cs), World.cell?_setCell_same _ _ _ (by rw [e0]), (cell_far _ _ _ _ (by omega)).trans (hc 6 _ (by omega) h.cg), (cell_far _ _ _ _ (by omega)).trans (hc 7 _ (by omega) h.cd), (cell_far _ _ _ _ (by omega)).trans (hc 8 _ (by omega) h.cc),
    fun k hk => fr_set _ _ _ _ (hf k hk), row_far (own_at h.r0 fun b hv _ hl => hg.block b hl (fun e => (h.d02 : ∀ b, v0.ownBlock = some b → v2.ownBlock ≠ some b) b hv e.symm)) _ _ (h.ne 5 (by omega)).1, row_far (own_at h.r1 fun b hv _ hl => hg.block b hl (fun e => (h.d12 : ∀ b, v1.ownBlock = some b → v2.ownBlock ≠ some b) b hv e.symm)) _ _ (h.ne 5 (by omega)).2.1, row_far ho _ _ hv', h.n0, h.n1, hn', h.d01, far_of (fun b hb => (own_lt h.r0 b hb).2) (h.d02 : ∀ b, v0.ownBlock = some b → v2.ownBlock ≠ some b) hb, far_of (fun b hb => (own_lt h.r1 b hb).2) (h.d12 : ∀ b, v1.ownBlock = some b → v2.ownBlock ≠ some b) hb⟩⟩
  simpa [World.setCell] using Nat.lt_of_lt_of_le hl hs
theorem wpList_pushI {ops : Array Oper} {rest : List Oper} {o : Oper} {a : Act} {Q : Exit → Act → World → Prop} (wr : World) (hgd : o.guard = none) (s x : Operand)
    (ho : o.op = .call { callee := .builtin .append, args := #[s, x], argTypes := #[24, 24] })
    (base : Nat) (v : Value) (n : Nat) (xs : List Value) (b : Int) (hs : a.eval s = v) (hx : a.eval x = .slice (some ⟨wr.heap.size, 0, none⟩) 1 1) (hown : wr.ownsRow base 3 1 v n xs) (hbase : base ≤ wr.heap.size) (hn : n ≤ 100000000)
    (h : ∀ v' w', w'.ownsRow base 3 1 v' (n + 1) (xs ++ [.int .i64 b]) → (wr.alloc (.cells #[.int .i64 b] 3)).grownBy w' v.ownBlock → (v'.ownBlock = v.ownBlock ∨ v'.ownBlock = some (wr.alloc (.cells #[.int .i64 b] 3)).heap.size) → wpList Tryd.prog ops Q rest (a.put o.dst v') w') :
    wpList Tryd.prog ops Q (o :: rest) a (wr.alloc (.cells #[.int .i64 b] 3)) := by
  obtain ⟨i0, hi, hz0, hz1, hz2⟩ := info_parts info_int
  have hownA : (wr.alloc (.cells #[.int .i64 b] 3)).ownsRow base 3 1 v n xs := own_below hown ((Below.refl _ _).alloc (Nat.le_refl _) _)
  have hbaseA : base ≤ (wr.alloc (.cells #[.int .i64 b] 3)).heap.size := by simp; omega
  refine wpList_append_own_at _ hgd s x 24 ho base 3 i0 (.int .i64 0) 1 8 Tryd.underlying24 hi hz0 hz1 hz2 rfl (by omega) v n xs hs hownA ⟨wr.heap.size, 0, none⟩ 1 1 [.int .i64 b] hx rfl (new_cells wr _ _ _) (by simp [Value.oneCell']) (by unfold maxLen; omega) (by omega) hbaseA ?_
  intro v' w' hown' hg _ hat
  exact h v' w' hown' hg hat
theorem wpList_pushS {ops : Array Oper} {rest : List Oper} {o : Oper} {a : Act} {Q : Exit → Act → World → Prop} (wr : World) (hgd : o.guard = none) (s x : Operand)
    (ho : o.op = .call { callee := .builtin .append, args := #[s, x], argTypes := #[23, 23] })
    (base : Nat) (v : Value) (n : Nat) (xs : List Value) (b : ByteArray) (hs : a.eval s = v) (hx : a.eval x = .slice (some ⟨wr.heap.size, 0, none⟩) 1 1) (hown : wr.ownsRow base 9 1 v n xs) (hbase : base ≤ wr.heap.size) (hn : n ≤ 100000000)
    (h : ∀ v' w', w'.ownsRow base 9 1 v' (n + 1) (xs ++ [.string b]) → (wr.alloc (.cells #[.string b] 9)).grownBy w' v.ownBlock → (v'.ownBlock = v.ownBlock ∨ v'.ownBlock = some (wr.alloc (.cells #[.string b] 9)).heap.size) → wpList Tryd.prog ops Q rest (a.put o.dst v') w') :
    wpList Tryd.prog ops Q (o :: rest) a (wr.alloc (.cells #[.string b] 9)) := by
  obtain ⟨i0, hi, hz0, hz1, hz2⟩ := info_parts info_str
  have hownA : (wr.alloc (.cells #[.string b] 9)).ownsRow base 9 1 v n xs := own_below hown ((Below.refl _ _).alloc (Nat.le_refl _) _)
  have hbaseA : base ≤ (wr.alloc (.cells #[.string b] 9)).heap.size := by simp; omega
  refine wpList_append_own_at _ hgd s x 23 ho base 9 i0 (.string ⟨#[]⟩) 1 16 Tryd.underlying23 hi hz0 hz1 hz2 rfl (by omega) v n xs hs hownA ⟨wr.heap.size, 0, none⟩ 1 1 [.string b] hx rfl (new_cells wr _ _ _) (by simp [Value.oneCell']) (by unfold maxLen; omega) (by omega) hbaseA ?_
  intro v' w' hown' hg _ hat
  exact h v' w' hown' hg hat
end Go.Proofs.YtpgfiecfndkheaaDoor
