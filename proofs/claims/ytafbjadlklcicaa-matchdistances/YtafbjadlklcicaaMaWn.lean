/- Window: what fits. -/
import Derived.Test.YtafbjadlklcicaaMaHu
import Derived.Test.YtafbjadlklcicaaMaUp
import Derived.Test.YtafbjadlklcicaaMaDr
import Derived.Laws.EntriesVeiled
namespace Go.Proofs.Ytafbjadlklcicaa
open Go.RowKit Go.Shelf
set_option maxRecDepth 100000

/-- What lay in w0 lies in W. -/
structure Kept (w0 W : World) : Prop where
  at_ : ∀ g, g < w0.heap.size → W.heap[g]? = w0.heap[g]?
  size : w0.heap.size ≤ W.heap.size
theorem Kept.of {w0 W : World} (h : Below w0.heap.size w0 W) : Kept w0 W := ⟨h.block, h.size⟩
theorem Kept.trans {a b c : World} (h : Kept a b) (k : Kept b c) : Kept a c := ⟨fun g hg => (k.at_ g (Nat.lt_of_lt_of_le hg h.size)).trans (h.at_ g hg), Nat.le_trans h.size k.size⟩
theorem Kept.grown {w0 W W' : World} {row : Option Nat} (h : Kept w0 W) (hg : W.grownBy W' row) (hr : ∀ r, row = some r → w0.heap.size ≤ r) : Kept w0 W' :=
  ⟨fun g hg' => (hg.block g (Nat.lt_of_lt_of_le hg' h.size) (fun e => by have := hr g e.symm; omega)).trans (h.at_ g hg'), Nat.le_trans h.size hg.size⟩
theorem Kept.cell {w0 W : World} (h : Kept w0 W) {p : Addr} {v : Value} (hv : w0.cell? p = some v) : W.cell? p = some v := (World.cell?_of_block (w := w0) (h.at_ _ (World.block_lt_of_cell? w0 _ hv))).trans hv
theorem Kept.cs {w0 W : World} (h : Kept w0 W) {A : Option Addr} {xs : List Value} (hc : CS w0 w0.heap.size A xs) : CS W W.heap.size A xs := fun hp => by
  obtain ⟨b, o, e, hb, hk⟩ := hc hp
  exact ⟨b, o, e, Nat.lt_of_lt_of_le hb h.size, fun k u hu => h.cell (hk k u hu)⟩
theorem Tx.kept {w W : World} {A1 : Option Addr} {n1 c1 : Nat} {A2 : Option Addr} {n2 c2 : Nat} {ss ps : List Int} (h : Tx w A1 n1 c1 A2 n2 c2 ss ps) (hk : Kept w W) : Tx W A1 n1 c1 A2 n2 c2 ss ps :=
  ⟨h.l1, h.l2, h.b1, h.b2, h.r1, h.r2, hk.cs h.s1, hk.cs h.s2⟩
/-- A text, a number and a unit in boxes. -/
structure WC (w : World) (Bn Bt Bu : Nat) (n f t u : Int) (A1 : Option Addr) (n1 c1 : Nat) (A2 : Option Addr) (n2 c2 : Nat) (ss ps : List Int) : Prop where
  cn : w.cell? ⟨Bn, 0, none⟩ = some (.int .i64 n)
  cu : w.cell? ⟨Bu, 0, none⟩ = some (.int .i64 u)
  c0 : w.cell? ⟨Bt, 0, none⟩ = some (.int .i64 f)
  c1' : w.cell? ⟨Bt, 1, none⟩ = some (.int .i64 t)
  c2' : w.cell? ⟨Bt, 2, none⟩ = some (.slice A1 n1 c1)
  c3 : w.cell? ⟨Bt, 3, none⟩ = some (.slice A2 n2 c2)
  tx : Tx w A1 n1 c1 A2 n2 c2 ss ps
  hu : u = 0 ∨ u = 1 ∨ u = 2
theorem WC.kept {w W : World} {Bn Bt Bu : Nat} {n f t u : Int} {A1 : Option Addr} {n1 c1 : Nat} {A2 : Option Addr} {n2 c2 : Nat} {ss ps : List Int} (h : WC w Bn Bt Bu n f t u A1 n1 c1 A2 n2 c2 ss ps) (hk : Kept w W) : WC W Bn Bt Bu n f t u A1 n1 c1 A2 n2 c2 ss ps :=
  ⟨hk.cell h.cn, hk.cell h.cu, hk.cell h.c0, hk.cell h.c1', hk.cell h.c2', hk.cell h.c3, h.tx.kept hk, h.hu⟩
def winP (u : Int) (ss ps : List Int) (n : Int) (l : List Sp) : Bool := if l.length = 0 then decide (0 ≤ n) else decide (wrap64 (rkL u ss ps (hi l) - rkL u ss ps (lo l)) < n)
set_option maxHeartbeats 4000000 in
theorem fits_any (Bn Bt Bu : Nat) (n f t u : Int) (A1 : Option Addr) (n1 c1 : Nat) (A2 : Option Addr) (n2 c2 : Nat) (ss ps : List Int) (v : Value) (l : List Sp) (hl : l.length ≤ 1000000) (w : World) (hC : WC w Bn Bt Bu n f t u A1 n1 c1 A2 n2 c2 ss ps) (h : SV w w.heap.size v l) :
    Calls Try.prog 50 #[v, .pointer (some ⟨Bn, 0, none⟩), .pointer (some ⟨Bt, 0, none⟩), .pointer (some ⟨Bu, 0, none⟩)] w fun e w' => e = .returned (.bool (winP u ss ps n l)) ∧ Below w.heap.size w w' := by
  have hmx : Try.prog.follows .mixedOrders = true := by kernel_rfl
  by_cases h0 : l.length = 0
  · obtain ⟨A, c, rfl, _⟩ := h
    rw [h0]
    unfold winP
    rw [if_pos h0]
    have cn := hC.cn
    clear hC h0
    go_enter Try.func50, Try.ntmps50
    go_wp2_with fail
    go_ret
    exact ⟨rfl, Below.refl _ _⟩
  · have hne : l ≠ [] := fun e => h0 (by rw [e]; rfl)
    have KH := Lib.hid (hull_any v l hl hne w h)
    unfold winP
    rw [if_neg h0]
    obtain ⟨A, c, rfl, _⟩ := h
    obtain ⟨n0, hn0⟩ : ∃ n, n = l.length := ⟨_, rfl⟩
    rw [← hn0] at h0 KH ⊢
    have hI : ((n0 : Int) == 0) = false := beq_eq_false_iff_ne.2 (by omega)
    have HC := Lib.hid hC
    obtain ⟨rh, hrh⟩ : ∃ r, r = rkL u ss ps (hi l) := ⟨_, rfl⟩
    obtain ⟨rl, hrl⟩ : ∃ r, r = rkL u ss ps (lo l) := ⟨_, rfl⟩
    rw [← hrh, ← hrl]
    have HRH := Lib.hid hrh
    have HRL := Lib.hid hrl
    clear hC hne hn0 hl hrh hrl
    go_enter Try.func50, Try.ntmps50
    go_wp2_with fail
    with_reducible refine KH.out.mono ?_
    rintro e w1 ⟨rfl, b1⟩
    unfold spV hullL
    simp only
    obtain ⟨X, hX⟩ : ∃ X, w1.alloc (.cells #[.int .i64 (lo l), .int .i64 (hi l), .int .i64 0, .int .i64 0] 26) = X := ⟨_, rfl⟩
    have bX : Below w1.heap.size w1 X := by rw [← hX]; exact (Below.refl _ _).alloc (Nat.le_refl _) _
    have bwX := b1.trans (bX.mono b1.size)
    have hC1 := HC.out.kept (Kept.of bwX)
    have hB : Box4 X w1.heap.size (lo l, hi l, 0, 0) := by rw [← hX]; exact Box4.new w1 (lo l, hi l, 0, 0)
    obtain ⟨q0, q1, _, _⟩ := hB.cells
    simp only at q0 q1
    obtain ⟨cn, cu, x0, x1, x2, x3, tx, hu⟩ := hC1
    have z0 : ∀ r : WB X.heap.size X, r.w.cell? ⟨Bt, 0, none⟩ = some (.int .i64 f) := fun r => (r.ok.cell (World.block_lt_of_cell? X _ x0)).trans x0
    have z1 : ∀ r : WB X.heap.size X, r.w.cell? ⟨Bt, 1, none⟩ = some (.int .i64 t) := fun r => (r.ok.cell (World.block_lt_of_cell? X _ x1)).trans x1
    have z2 : ∀ r : WB X.heap.size X, r.w.cell? ⟨Bt, 2, none⟩ = some (.slice A1 n1 c1) := fun r => (r.ok.cell (World.block_lt_of_cell? X _ x2)).trans x2
    have z3 : ∀ r : WB X.heap.size X, r.w.cell? ⟨Bt, 3, none⟩ = some (.slice A2 n2 c2) := fun r => (r.ok.cell (World.block_lt_of_cell? X _ x3)).trans x3
    have zn : ∀ r : WB X.heap.size X, r.w.cell? ⟨Bn, 0, none⟩ = some (.int .i64 n) := fun r => (r.ok.cell (World.block_lt_of_cell? X _ cn)).trans cn
    have zu : ∀ r : WB X.heap.size X, r.w.cell? ⟨Bu, 0, none⟩ = some (.int .i64 u) := fun r => (r.ok.cell (World.block_lt_of_cell? X _ cu)).trans cu
    have y0 : ∀ r : WB X.heap.size X, r.w.cell? ⟨w1.heap.size, 0, none⟩ = some (.int .i64 (lo l)) := fun r => (r.ok.cell (World.block_lt_of_cell? X _ q0)).trans q0
    have y1 : ∀ r : WB X.heap.size X, r.w.cell? ⟨w1.heap.size, 1, none⟩ = some (.int .i64 (hi l)) := fun r => (r.ok.cell (World.block_lt_of_cell? X _ q1)).trans q1
    have K1 : Hid (∀ (x : Int) (r : WB X.heap.size X), Calls Try.prog 24 #[txV f t A1 n1 c1 A2 n2 c2, .int .i64 u, .int .i64 x] r.w fun e w' => e = .returned (.int .i64 (rkL u ss ps x)) ∧ Below r.w.heap.size r.w w') := fun x r => trank_any f t u x A1 n1 c1 A2 n2 c2 ss ps hu r.w (tx.up r.ok)
    have K2 := Lib.hid (K1.out (hi l))
    have K3 := Lib.hid (K1.out (lo l))
    rw [← HRH.out] at K2
    rw [← HRL.out] at K3
    have HB := Lib.hid bwX
    have HX := Lib.hid hX
    unfold txV at K2 K3
    clear HRH HRL
    generalize hi l = hil at *
    generalize lo l = lol at *
    clear hX bX bwX hB q0 q1 cn cu x0 x1 x2 x3 tx b1 K1 KH
    go_upto_region 4 with fail
    rw [HX.out]
    refine wp_region_quietB X.heap.size X hmx (by kernel_rfl) (Below.refl _ _) ?_
    repeat (go_big_quiet_step ((first
      | (go_at_call 24; with_reducible exact calls_quietB (K2.out _) (Nat.le_refl _))
      | (go_at_call 24; with_reducible exact calls_quietB (K3.out _) (Nat.le_refl _)))))
    refine wpQuiet_nil ?_
    intro _ hw'
    obtain ⟨pq, rfl⟩ := hw'
    go_wp2_with fail
    go_ret
    exact ⟨rfl, HB.out.trans (pq.ok.mono HB.out.size)⟩
end Go.Proofs.Ytafbjadlklcicaa
