/- token.Text in memory; Text.part. -/
import Derived.Test.YtpgfiecfndkheaaDoorTkW2
import Derived.Test.YtpgfiecfndkheaaDoorCs
import Derived.Deep.RegionLaw
namespace Go.Proofs.YtpgfiecfndkheaaDoor
open Go.RowKit
set_option maxRecDepth 100000

def tCells (ws : List B8) : List Value := ws.map fun w => .string (strOf w)
def nCells (ns : List Nat) : List Value := ns.map fun n : Nat => .int .i64 (n : Int)
theorem tCells_len (ws : List B8) : (tCells ws).length = ws.length := by simp [tCells]
theorem nCells_len (ns : List Nat) : (nCells ns).length = ns.length := by simp [nCells]
theorem tCells_app (a b : List B8) : tCells (a ++ b) = tCells a ++ tCells b := by simp [tCells]
theorem nCells_app (a b : List Nat) : nCells (a ++ b) = nCells a ++ nCells b := by simp [nCells]
theorem own_at {w w' : World} {base : Nat} {t : TypeId} {size : Nat} {v : Value} {n : Nat} {xs : List Value} (h : w.ownsRow base t size v n xs) (hk : ∀ g, v.ownBlock = some g → base ≤ g → g < w.heap.size → w'.heap[g]? = w.heap[g]?) : w'.ownsRow base t size v n xs := by
  refine ⟨h.1, ?_⟩
  rcases h.2 with h | ⟨g, cap, cur, hv, hg, hh, r⟩
  · exact .inl h
  · exact .inr ⟨g, cap, cur, hv, hg, (hk g (by rw [hv]; rfl) hg (row_lt hh)).trans hh, r⟩
theorem own_lt {w : World} {base : Nat} {t : TypeId} {size : Nat} {v : Value} {n : Nat} {xs : List Value} (h : w.ownsRow base t size v n xs) : ∀ b, v.ownBlock = some b → base ≤ b ∧ b < w.heap.size := by
  obtain ⟨_, _, _, _, _, _, hb⟩ := own_form h
  exact hb
theorem cell_setR (w : World) (R o o' : Nat) (u : Value) (h : o' ≠ o) : (w.setCell ⟨R, o, none⟩ u).cell? ⟨R, o', none⟩ = w.cell? ⟨R, o', none⟩ := World.cell?_setCell_other _ _ _ _ (by intro e; injection e with _ e; exact h e.symm)

/-- A Text in block R: its three cells, and the rows that they name, none of them another one. -/
structure TV (w : World) (R : Nat) (W : List B8) (Sn Pn : List Nat) (vw vs vp : Value) : Prop where
  lt : R < w.heap.size
  c0 : w.cell? ⟨R, 0, none⟩ = some vw
  c1 : w.cell? ⟨R, 1, none⟩ = some vs
  c2 : w.cell? ⟨R, 2, none⟩ = some vp
  fr : ∀ o, w.frozen? ⟨R, o, none⟩ = false
  r0 : w.ownsRow (R + 1) 9 1 vw W.length (tCells W)
  r1 : w.ownsRow (R + 1) 3 1 vs Sn.length (nCells Sn)
  r2 : w.ownsRow (R + 1) 3 1 vp Pn.length (nCells Pn)
  d01 : ∀ b, vw.ownBlock = some b → vs.ownBlock ≠ some b
  d02 : ∀ b, vw.ownBlock = some b → vp.ownBlock ≠ some b
  d12 : ∀ b, vs.ownBlock = some b → vp.ownBlock ≠ some b
theorem TV.keep {w w' : World} {R : Nat} {W : List B8} {Sn Pn : List Nat} {vw vs vp : Value} (h : TV w R W Sn Pn vw vs vp) (hs : w.heap.size ≤ w'.heap.size) (hk : ∀ g, R ≤ g → g < w.heap.size → w'.heap[g]? = w.heap[g]?) : TV w' R W Sn Pn vw vs vp := by
  have hR := hk R (Nat.le_refl _) h.lt
  exact ⟨Nat.lt_of_lt_of_le h.lt hs, (World.cell?_of_block (w := w) (a := ⟨R, 0, none⟩) hR).trans h.c0, (World.cell?_of_block (w := w) (a := ⟨R, 1, none⟩) hR).trans h.c1, (World.cell?_of_block (w := w) (a := ⟨R, 2, none⟩) hR).trans h.c2,
    fun o => (World.frozen?_of_block (w := w) (a := ⟨R, o, none⟩) hR).trans (h.fr o), own_at h.r0 fun g _ h1 h2 => hk g (by omega) h2, own_at h.r1 fun g _ h1 h2 => hk g (by omega) h2, own_at h.r2 fun g _ h1 h2 => hk g (by omega) h2, h.d01, h.d02, h.d12⟩
theorem TV.below {w w' : World} {R : Nat} {W : List B8} {Sn Pn : List Nat} {vw vs vp : Value} (h : TV w R W Sn Pn vw vs vp) (hb : Below w.heap.size w w') : TV w' R W Sn Pn vw vs vp := h.keep hb.size fun g _ h2 => hb.block g h2
theorem far_of {H : Nat} {u v v' : Value} (hu : ∀ b, u.ownBlock = some b → b < H) (hd : ∀ b, u.ownBlock = some b → v.ownBlock ≠ some b) (hb : v'.ownBlock = v.ownBlock ∨ v'.ownBlock = some H) : ∀ b, u.ownBlock = some b → v'.ownBlock ≠ some b := fun b h => by
  rcases hb with e | e
  · rw [e]; exact hd b h
  · rw [e]; intro e'; injection e' with e'; have := hu b h; omega
theorem set_own {w : World} {R : Nat} {t : TypeId} {v : Value} {n : Nat} {xs : List Value} (h : w.ownsRow (R + 1) t 1 v n xs) (o : Nat) (u : Value) : (w.setCell ⟨R, o, none⟩ u).ownsRow (R + 1) t 1 v n xs :=
  own_at h fun g _ h1 _ => Below.heap_setCell w ⟨R, o, none⟩ u g (by simp; omega)
theorem TV.grow0 {w w' : World} {R : Nat} {W W' : List B8} {Sn Pn : List Nat} {vw vs vp v' : Value} (h : TV w R W Sn Pn vw vs vp) (hg : w.grownBy w' vw.ownBlock) (ho : w'.ownsRow (R + 1) 9 1 v' W'.length (tCells W')) (hb : v'.ownBlock = vw.ownBlock ∨ v'.ownBlock = some w.heap.size) :
    w'.cell? ⟨R, 0, none⟩ = some vw ∧ w'.frozen? ⟨R, 0, none⟩ = false ∧ Below R w (w'.setCell ⟨R, 0, none⟩ v') ∧ TV (w'.setCell ⟨R, 0, none⟩ v') R W' Sn Pn v' vs vp := by
  have hne : vw.ownBlock ≠ some R := fun e => by have := (own_lt h.r0 R e).1; omega
  have hk := hg.block R h.lt (fun e => hne e.symm)
  have e0 := (World.cell?_of_block (w := w) (a := ⟨R, 0, none⟩) hk).trans h.c0
  have e1 := (World.cell?_of_block (w := w) (a := ⟨R, 1, none⟩) hk).trans h.c1
  have e2 := (World.cell?_of_block (w := w) (a := ⟨R, 2, none⟩) hk).trans h.c2
  have ef := fun o => (World.frozen?_of_block (w := w) (a := ⟨R, o, none⟩) hk).trans (h.fr o)
  have hb1 : Below R w w' := (Below.refl R w).grown hg (Nat.le_of_lt h.lt) fun k hk => by have := (own_lt h.r0 k hk).1; omega
  have s10 : ∀ b, vs.ownBlock = some b → vw.ownBlock ≠ some b := fun b h1 h2 => h.d01 b h2 h1
  have s20 : ∀ b, vp.ownBlock = some b → vw.ownBlock ≠ some b := fun b h1 h2 => h.d02 b h2 h1
  refine ⟨e0, ef 0, hb1.setCell (p := ⟨R, 0, none⟩) (Nat.le_refl _) v', ⟨?_, World.cell?_setCell_same _ _ _ (by rw [e0]), (cell_setR w' R 0 1 v' (by omega)).trans e1, (cell_setR w' R 0 2 v' (by omega)).trans e2, fun o => by simpa using ef o, set_own ho 0 v',
    set_own (own_at h.r1 fun g hv _ hl => hg.block g hl (fun e => s10 g hv e.symm)) 0 v', set_own (own_at h.r2 fun g hv _ hl => hg.block g hl (fun e => s20 g hv e.symm)) 0 v', ?_, ?_, h.d12⟩⟩
  · have := Nat.lt_of_lt_of_le h.lt hg.size
    simpa [World.setCell] using this
  · exact fun b h1 h2 => far_of (fun b hb => (own_lt h.r1 b hb).2) s10 hb b h2 h1
  · exact fun b h1 h2 => far_of (fun b hb => (own_lt h.r2 b hb).2) s20 hb b h2 h1
theorem TV.grow1 {w w' : World} {R : Nat} {W : List B8} {Sn Pn Sn' : List Nat} {vw vs vp v' : Value} (h : TV w R W Sn Pn vw vs vp) (hg : w.grownBy w' vs.ownBlock) (ho : w'.ownsRow (R + 1) 3 1 v' Sn'.length (nCells Sn')) (hb : v'.ownBlock = vs.ownBlock ∨ v'.ownBlock = some w.heap.size) :
    w'.cell? ⟨R, 1, none⟩ = some vs ∧ w'.frozen? ⟨R, 1, none⟩ = false ∧ Below R w (w'.setCell ⟨R, 1, none⟩ v') ∧ TV (w'.setCell ⟨R, 1, none⟩ v') R W Sn' Pn vw v' vp := by
  have hne : vs.ownBlock ≠ some R := fun e => by have := (own_lt h.r1 R e).1; omega
  have hk := hg.block R h.lt (fun e => hne e.symm)
  have e0 := (World.cell?_of_block (w := w) (a := ⟨R, 0, none⟩) hk).trans h.c0
  have e1 := (World.cell?_of_block (w := w) (a := ⟨R, 1, none⟩) hk).trans h.c1
  have e2 := (World.cell?_of_block (w := w) (a := ⟨R, 2, none⟩) hk).trans h.c2
  have ef := fun o => (World.frozen?_of_block (w := w) (a := ⟨R, o, none⟩) hk).trans (h.fr o)
  have hb1 : Below R w w' := (Below.refl R w).grown hg (Nat.le_of_lt h.lt) fun k hk => by have := (own_lt h.r1 k hk).1; omega
  have s21 : ∀ b, vp.ownBlock = some b → vs.ownBlock ≠ some b := fun b h1 h2 => h.d12 b h2 h1
  refine ⟨e1, ef 1, hb1.setCell (p := ⟨R, 1, none⟩) (Nat.le_refl _) v', ⟨?_, (cell_setR w' R 1 0 v' (by omega)).trans e0, World.cell?_setCell_same _ _ _ (by rw [e1]), (cell_setR w' R 1 2 v' (by omega)).trans e2, fun o => by simpa using ef o,
    set_own (own_at h.r0 fun g hv _ hl => hg.block g hl (fun e => h.d01 g hv e.symm)) 1 v', set_own ho 1 v', set_own (own_at h.r2 fun g hv _ hl => hg.block g hl (fun e => s21 g hv e.symm)) 1 v', ?_, h.d02, ?_⟩⟩
  · have := Nat.lt_of_lt_of_le h.lt hg.size
    simpa [World.setCell] using this
  · exact far_of (fun b hb => (own_lt h.r0 b hb).2) h.d01 hb
  · exact fun b h1 h2 => far_of (fun b hb => (own_lt h.r2 b hb).2) s21 hb b h2 h1
theorem TV.grow2 {w w' : World} {R : Nat} {W : List B8} {Sn Pn Pn' : List Nat} {vw vs vp v' : Value} (h : TV w R W Sn Pn vw vs vp) (hg : w.grownBy w' vp.ownBlock) (ho : w'.ownsRow (R + 1) 3 1 v' Pn'.length (nCells Pn')) (hb : v'.ownBlock = vp.ownBlock ∨ v'.ownBlock = some w.heap.size) :
    w'.cell? ⟨R, 2, none⟩ = some vp ∧ w'.frozen? ⟨R, 2, none⟩ = false ∧ Below R w (w'.setCell ⟨R, 2, none⟩ v') ∧ TV (w'.setCell ⟨R, 2, none⟩ v') R W Sn Pn' vw vs v' := by
  have hne : vp.ownBlock ≠ some R := fun e => by have := (own_lt h.r2 R e).1; omega
  have hk := hg.block R h.lt (fun e => hne e.symm)
  have e0 := (World.cell?_of_block (w := w) (a := ⟨R, 0, none⟩) hk).trans h.c0
  have e1 := (World.cell?_of_block (w := w) (a := ⟨R, 1, none⟩) hk).trans h.c1
  have e2 := (World.cell?_of_block (w := w) (a := ⟨R, 2, none⟩) hk).trans h.c2
  have ef := fun o => (World.frozen?_of_block (w := w) (a := ⟨R, o, none⟩) hk).trans (h.fr o)
  have hb1 : Below R w w' := (Below.refl R w).grown hg (Nat.le_of_lt h.lt) fun k hk => by have := (own_lt h.r2 k hk).1; omega
  refine ⟨e2, ef 2, hb1.setCell (p := ⟨R, 2, none⟩) (Nat.le_refl _) v', ⟨?_, (cell_setR w' R 2 0 v' (by omega)).trans e0, (cell_setR w' R 2 1 v' (by omega)).trans e1, World.cell?_setCell_same _ _ _ (by rw [e2]), fun o => by simpa using ef o,
    set_own (own_at h.r0 fun g hv _ hl => hg.block g hl (fun e => h.d02 g hv e.symm)) 2 v', set_own (own_at h.r1 fun g hv _ hl => hg.block g hl (fun e => h.d12 g hv e.symm)) 2 v', set_own ho 2 v', h.d01, ?_, ?_⟩⟩
  · have := Nat.lt_of_lt_of_le h.lt hg.size
    simpa [World.setCell] using this
  · exact far_of (fun b hb => (own_lt h.r0 b hb).2) h.d02 hb
  · exact far_of (fun b hb => (own_lt h.r1 b hb).2) h.d12 hb
theorem TV.app0 {w w4 : World} {R : Nat} {W : List B8} {Sn Pn : List Nat} {vw vs vp : Value} (h : TV w R W Sn Pn vw vs vp) (o : Obj) (hg : ((w.alloc o).drew).grownBy w4 vw.ownBlock) :
    w4.cell? ⟨R, 0, none⟩ = some vw ∧ w4.frozen? ⟨R, 0, none⟩ = false ∧ ∀ (gg cap : Nat) (x : B8), w4.ownsRow (R + 1) 9 1 (.slice (some ⟨gg, 0, none⟩) (W.length + 1) cap) (W.length + 1) (tCells W ++ [.string (strOf x)]) → (vw.ownBlock = some gg ∨ gg = w.heap.size + 1) →
      Below R w (w4.setCell ⟨R, 0, none⟩ (.slice (some ⟨gg, 0, none⟩) (W.length + 1) cap)) ∧ TV (w4.setCell ⟨R, 0, none⟩ (.slice (some ⟨gg, 0, none⟩) (W.length + 1) cap)) R (W ++ [x]) Sn Pn (.slice (some ⟨gg, 0, none⟩) (W.length + 1) cap) vs vp := by
  have hb : Below w.heap.size w (w.alloc o).drew := ((Below.refl _ _).alloc (Nat.le_refl _) o).drew
  have hsz : (w.alloc o).drew.heap.size = w.heap.size + 1 := by show (w.alloc o).heap.size = _; simp
  have h2 := h.below hb
  have hne : vw.ownBlock ≠ some R := fun e => by have := (own_lt h.r0 R e).1; omega
  have hk := hg.block R h2.lt (fun e => hne e.symm)
  refine ⟨(World.cell?_of_block (w := (w.alloc o).drew) (a := ⟨R, 0, none⟩) hk).trans h2.c0, (World.frozen?_of_block (w := (w.alloc o).drew) (a := ⟨R, 0, none⟩) hk).trans (h2.fr 0), fun gg cap x hown hat => ?_⟩
  have hl : (W ++ [x]).length = W.length + 1 := by simp
  have := h2.grow0 (W' := W ++ [x]) (v' := .slice (some ⟨gg, 0, none⟩) (W.length + 1) cap) hg (by rw [hl, tCells_app]; exact hown) (by
    rcases hat with e | e
    · exact .inl e.symm
    · exact .inr (by rw [hsz, e]; rfl))
  exact ⟨(hb.mono (Nat.le_of_lt h.lt)).trans this.2.2.1, this.2.2.2⟩
theorem TV.app1 {w w4 : World} {R : Nat} {W : List B8} {Sn Pn : List Nat} {vw vs vp : Value} (h : TV w R W Sn Pn vw vs vp) (o : Obj) (hg : ((w.alloc o).drew).grownBy w4 vs.ownBlock) :
    w4.cell? ⟨R, 1, none⟩ = some vs ∧ w4.frozen? ⟨R, 1, none⟩ = false ∧ ∀ (gg cap : Nat) (x : Nat), w4.ownsRow (R + 1) 3 1 (.slice (some ⟨gg, 0, none⟩) (Sn.length + 1) cap) (Sn.length + 1) (nCells Sn ++ [.int .i64 (x : Int)]) → (vs.ownBlock = some gg ∨ gg = w.heap.size + 1) →
      Below R w (w4.setCell ⟨R, 1, none⟩ (.slice (some ⟨gg, 0, none⟩) (Sn.length + 1) cap)) ∧ TV (w4.setCell ⟨R, 1, none⟩ (.slice (some ⟨gg, 0, none⟩) (Sn.length + 1) cap)) R W (Sn ++ [x]) Pn vw (.slice (some ⟨gg, 0, none⟩) (Sn.length + 1) cap) vp := by
  have hb : Below w.heap.size w (w.alloc o).drew := ((Below.refl _ _).alloc (Nat.le_refl _) o).drew
  have hsz : (w.alloc o).drew.heap.size = w.heap.size + 1 := by show (w.alloc o).heap.size = _; simp
  have h2 := h.below hb
  have hne : vs.ownBlock ≠ some R := fun e => by have := (own_lt h.r1 R e).1; omega
  have hk := hg.block R h2.lt (fun e => hne e.symm)
  refine ⟨(World.cell?_of_block (w := (w.alloc o).drew) (a := ⟨R, 1, none⟩) hk).trans h2.c1, (World.frozen?_of_block (w := (w.alloc o).drew) (a := ⟨R, 1, none⟩) hk).trans (h2.fr 1), fun gg cap x hown hat => ?_⟩
  have hl : (Sn ++ [x]).length = Sn.length + 1 := by simp
  have := h2.grow1 (Sn' := Sn ++ [x]) (v' := .slice (some ⟨gg, 0, none⟩) (Sn.length + 1) cap) hg (by rw [hl, nCells_app]; exact hown) (by
    rcases hat with e | e
    · exact .inl e.symm
    · exact .inr (by rw [hsz, e]; rfl))
  exact ⟨(hb.mono (Nat.le_of_lt h.lt)).trans this.2.2.1, this.2.2.2⟩
theorem TV.app2 {w w4 : World} {R : Nat} {W : List B8} {Sn Pn : List Nat} {vw vs vp : Value} (h : TV w R W Sn Pn vw vs vp) (o : Obj) (hg : ((w.alloc o).drew).grownBy w4 vp.ownBlock) :
    w4.cell? ⟨R, 2, none⟩ = some vp ∧ w4.frozen? ⟨R, 2, none⟩ = false ∧ ∀ (gg cap : Nat) (x : Nat), w4.ownsRow (R + 1) 3 1 (.slice (some ⟨gg, 0, none⟩) (Pn.length + 1) cap) (Pn.length + 1) (nCells Pn ++ [.int .i64 (x : Int)]) → (vp.ownBlock = some gg ∨ gg = w.heap.size + 1) →
      Below R w (w4.setCell ⟨R, 2, none⟩ (.slice (some ⟨gg, 0, none⟩) (Pn.length + 1) cap)) ∧ TV (w4.setCell ⟨R, 2, none⟩ (.slice (some ⟨gg, 0, none⟩) (Pn.length + 1) cap)) R W Sn (Pn ++ [x]) vw vs (.slice (some ⟨gg, 0, none⟩) (Pn.length + 1) cap) := by
  have hb : Below w.heap.size w (w.alloc o).drew := ((Below.refl _ _).alloc (Nat.le_refl _) o).drew
  have hsz : (w.alloc o).drew.heap.size = w.heap.size + 1 := by show (w.alloc o).heap.size = _; simp
  have h2 := h.below hb
  have hne : vp.ownBlock ≠ some R := fun e => by have := (own_lt h.r2 R e).1; omega
  have hk := hg.block R h2.lt (fun e => hne e.symm)
  refine ⟨(World.cell?_of_block (w := (w.alloc o).drew) (a := ⟨R, 2, none⟩) hk).trans h2.c2, (World.frozen?_of_block (w := (w.alloc o).drew) (a := ⟨R, 2, none⟩) hk).trans (h2.fr 2), fun gg cap x hown hat => ?_⟩
  have hl : (Pn ++ [x]).length = Pn.length + 1 := by simp
  have := h2.grow2 (Pn' := Pn ++ [x]) (v' := .slice (some ⟨gg, 0, none⟩) (Pn.length + 1) cap) hg (by rw [hl, nCells_app]; exact hown) (by
    rcases hat with e | e
    · exact .inl e.symm
    · exact .inr (by rw [hsz, e]; rfl))
  exact ⟨(hb.mono (Nat.le_of_lt h.lt)).trans this.2.2.1, this.2.2.2⟩
theorem info_int : (Tryd.prog.info? 3).map (fun i => (i.zero, i.size, i.bytes)) = some (some (.int .i64 0), 1, 8) := by kernel_rfl
theorem info_str : (Tryd.prog.info? 9).map (fun i => (i.zero, i.size, i.bytes)) = some (some (.string ⟨#[]⟩), 1, 16) := by kernel_rfl

def endIf (b : Bool) (n : Nat) : List Nat := if b then [n] else []
def PartPost (w : World) (R : Nat) (W : List B8) (Sn Pn : List Nat) (g : B8) (vw : Value) (e : Ending) (w' : World) : Prop :=
  e = .returned (.tuple #[]) ∧ Below R w w' ∧ ∃ vs vp, TV w' R W (Sn ++ endIf (parB false g || stopB g) W.length) (Pn ++ endIf (parB false g) W.length) vw vs vp
set_option maxHeartbeats 4000000 in
theorem part_any (R : Nat) (g : B8) (hgl : g.length ≤ 100000000) (W : List B8) (Sn Pn : List Nat) (vw vs vp : Value) (w : World) (h : TV w R W Sn Pn vw vs vp) (_hW : W.length ≤ 100000000) (hS : Sn.length ≤ 100000000) (hP : Pn.length ≤ 100000000) :
    Calls Tryd.prog 19 #[.pointer (some ⟨R, 0, none⟩), .string (strOf g)] w fun e w' => PartPost w R W Sn Pn g vw e w' := by
  have HV := Lib.hid h
  have HQ : Hid (∀ e w', PartPost w R W Sn Pn g vw e w' ↔ (e = .returned (.tuple #[]) ∧ Below R w w' ∧ ∃ vs vp, TV w' R W (Sn ++ endIf (parB false g || stopB g) W.length) (Pn ++ endIf (parB false g) W.length) vw vs vp)) := fun e w' => Iff.rfl
  obtain ⟨Aw, cw, hvw, hcw, hmw, _, _⟩ := own_form h.r0
  obtain ⟨As, cs, hvs, hcs, hms, _, _⟩ := own_form h.r1
  obtain ⟨Ap, cp, hvp, hcp, hmp, _, _⟩ := own_form h.r2
  have HPA := Lib.hid (par_any g hgl)
  have HCA := Lib.hid (cany_any g hgl)
  obtain ⟨i0, hi, hz0, hz1, hz2⟩ := info_parts info_int
  unfold maxLen at hmw hms hmp
  clear h
  generalize hm : W.length = m at *
  subst hvw hvs hvp
  have hV := HV.out
  have c0 := hV.c0
  have c1 := hV.c1
  have c2 := hV.c2
  have hlt := hV.lt
  clear hV
  cases hpb : parB false g
  · rw [hpb] at HPA HQ
    simp only [Bool.false_or, endIf] at HQ
    cases hsb : stopB g
    · rw [hsb] at HCA HQ
      clear hpb hsb
      go_enter Tryd.func19, Tryd.ntmps19
      go_wp2_with fail
      refine (HPA.out w).mono ?_
      rintro e w1 ⟨rfl, rfl⟩
      go_wp2_with fail
      refine (HCA.out w).mono ?_
      rintro e w5 ⟨rfl, hb5⟩
      have HFIN := Lib.hid ((HQ.out (.returned (.tuple #[])) w5).2 ⟨rfl, hb5.mono (Nat.le_of_lt hlt), _, _, by simpa using HV.out.below hb5⟩)
      clear hb5
      go_wp2_with fail
      go_end0
      exact HFIN.out
    · rw [hsb] at HCA HQ
      clear hpb hsb
      go_enter Tryd.func19, Tryd.ntmps19
      go_wp2_with fail
      refine (HPA.out w).mono ?_
      rintro e w1 ⟨rfl, rfl⟩
      go_wp2_with fail
      refine (HCA.out w).mono ?_
      rintro e w5 ⟨rfl, hb5⟩
      have HV5 := Lib.hid (HV.out.below hb5)
      have HB5 := Lib.hid (hb5.mono (Nat.le_of_lt hlt))
      have c0 := HV5.out.c0
      have c1 := HV5.out.c1
      simp only [List.append_nil, Bool.false_eq_true, if_true, if_false] at HQ
      clear hb5
      go_wp2_with fail
      have HA1 : Hid (∀ w4 : World, _ → _) := fun w4 => HV5.out.app1 (w4 := w4) (.cells #[.int .i64 (m : Int)] 3)
      have hownS := HV5.out.r1
      have hlt5 := HV5.out.lt
      go_region_law ((refine step_append_lies _ (by rfl) _ _ _ (by rfl) (R + 1) 3 i0 _ 1 8 Tryd.underlying24 hi hz0 hz1 hz2 rfl (by omega) (.slice As Sn.length cs) Sn.length (nCells Sn) (by rfl) ((hownS.alloc _).drew) ⟨w5.heap.size, 0, none⟩ 1 1 [.int .i64 (m : Int)] (by rfl) (by rfl) (World.news_of_block (cs := #[.int .i64 (m : Int)]) (t := 3) (fr := (0, 0)) (heap_alloc_new w5 _)) (by simp [Value.oneCell']) (by omega) (by unfold maxLen; omega) (by omega) (by simp; omega) (w5.heap.size + 1) (by simp) ?_; intro gg cap w4 hown4 hgrow hat hlt4; have k4 := (HA1.out w4 hgrow).1; have f4 := (HA1.out w4 hgrow).2.1))
      all_goals
        obtain ⟨b6, hv6⟩ := (HA1.out w4 hgrow).2.2 gg cap m hown4 hat
        have HFIN := Lib.hid ((HQ.out (.returned (.tuple #[])) _).2 ⟨rfl, HB5.out.trans b6, _, _, hv6⟩)
        clear b6 hv6 hown4 hgrow hat hlt4
        go_wp2_with fail
        go_end0
        exact HFIN.out
  · rw [hpb] at HPA HQ
    simp only [Bool.true_or, endIf, if_true] at HQ
    clear HCA hpb
    go_enter Tryd.func19, Tryd.ntmps19
    go_wp2_with fail
    refine (HPA.out w).mono ?_
    rintro e w1 ⟨rfl, rfl⟩
    go_wp2_with fail
    have hownW := HV.out.r2
    have HA2 : Hid (∀ w4 : World, _ → _) := fun w4 => HV.out.app2 (w4 := w4) (.cells #[.int .i64 (m : Int)] 3)
    go_region_law ((refine step_append_lies _ (by rfl) _ _ _ (by rfl) (R + 1) 3 i0 _ 1 8 Tryd.underlying24 hi hz0 hz1 hz2 rfl (by omega) (.slice Ap Pn.length cp) Pn.length (nCells Pn) (by rfl) ((hownW.alloc _).drew) ⟨w.heap.size, 0, none⟩ 1 1 [.int .i64 (m : Int)] (by rfl) (by rfl) (World.news_of_block (cs := #[.int .i64 (m : Int)]) (t := 3) (fr := (0, 0)) (heap_alloc_new w _)) (by simp [Value.oneCell']) (by omega) (by unfold maxLen; omega) (by omega) (by simp; omega) (w.heap.size + 1) (by simp) ?_; intro gg cap w4 hown4 hgrow hat hlt4; have k4 := (HA2.out w4 hgrow).1; have f4 := (HA2.out w4 hgrow).2.1))
    all_goals
      obtain ⟨b5, hv5⟩ := (HA2.out w4 hgrow).2.2 gg cap m hown4 hat
      clear hown4 hgrow hat hlt4 k4 f4 c0 c1 c2
      generalize w4.setCell ⟨R, 2, none⟩ (.slice (some ⟨gg, 0, none⟩) (Pn.length + 1) cap) = w5 at *
      have HV5 := Lib.hid hv5
      have HB5 := Lib.hid b5
      have c0 := hv5.c0
      have c1 := hv5.c1
      clear hv5 b5 hownW
      go_wp2_with fail
      have HA1 : Hid (∀ w4 : World, _ → _) := fun w4 => HV5.out.app1 (w4 := w4) (.cells #[.int .i64 (m : Int)] 3)
      have hownS := HV5.out.r1
      have hlt5 := HV5.out.lt
      go_region_law ((refine step_append_lies _ (by rfl) _ _ _ (by rfl) (R + 1) 3 i0 _ 1 8 Tryd.underlying24 hi hz0 hz1 hz2 rfl (by omega) (.slice As Sn.length cs) Sn.length (nCells Sn) (by rfl) ((hownS.alloc _).drew) ⟨w5.heap.size, 0, none⟩ 1 1 [.int .i64 (m : Int)] (by rfl) (by rfl) (World.news_of_block (cs := #[.int .i64 (m : Int)]) (t := 3) (fr := (0, 0)) (heap_alloc_new w5 _)) (by simp [Value.oneCell']) (by omega) (by unfold maxLen; omega) (by omega) (by simp; omega) (w5.heap.size + 1) (by simp) ?_; intro gg cap w4 hown4 hgrow hat hlt4; have k4 := (HA1.out w4 hgrow).1; have f4 := (HA1.out w4 hgrow).2.1))
      all_goals
        obtain ⟨b6, hv6⟩ := (HA1.out w4 hgrow).2.2 gg cap m hown4 hat
        have HFIN := Lib.hid ((HQ.out (.returned (.tuple #[])) _).2 ⟨rfl, HB5.out.trans b6, _, _, hv6⟩)
        clear b6 hv6 hown4 hgrow hat hlt4
        go_wp2_with fail
        go_end0
        exact HFIN.out
end Go.Proofs.YtpgfiecfndkheaaDoor
