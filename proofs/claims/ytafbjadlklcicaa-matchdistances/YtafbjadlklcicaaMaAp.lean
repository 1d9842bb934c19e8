/- Apart, First. -/
import Derived.Test.YtafbjadlklcicaaMaNb
import Derived.Test.YtafbjadlklcicaaMaW3
import Derived.Laws.EntriesVeiled
namespace Go.Proofs.Ytafbjadlklcicaa
open Go.RowKit Go.Shelf
set_option maxRecDepth 100000

/-- A text and a unit in boxes. -/
structure TC (w : World) (Bt Bu : Nat) (f t u : Int) (A1 : Option Addr) (n1 c1 : Nat) (A2 : Option Addr) (n2 c2 : Nat) (ss ps : List Int) : Prop where
  cu : w.cell? ⟨Bu, 0, none⟩ = some (.int .i64 u)
  c0 : w.cell? ⟨Bt, 0, none⟩ = some (.int .i64 f)
  c1' : w.cell? ⟨Bt, 1, none⟩ = some (.int .i64 t)
  c2' : w.cell? ⟨Bt, 2, none⟩ = some (.slice A1 n1 c1)
  c3 : w.cell? ⟨Bt, 3, none⟩ = some (.slice A2 n2 c2)
  tx : Tx w A1 n1 c1 A2 n2 c2 ss ps
  hu : u = 0 ∨ u = 1 ∨ u = 2
theorem TC.kept {w W : World} {Bt Bu : Nat} {f t u : Int} {A1 : Option Addr} {n1 c1 : Nat} {A2 : Option Addr} {n2 c2 : Nat} {ss ps : List Int} (h : TC w Bt Bu f t u A1 n1 c1 A2 n2 c2 ss ps) (hk : Kept w W) : TC W Bt Bu f t u A1 n1 c1 A2 n2 c2 ss ps :=
  ⟨hk.cell h.cu, hk.cell h.c0, hk.cell h.c1', hk.cell h.c2', hk.cell h.c3, h.tx.kept hk, h.hu⟩
def rA (u : Int) (ss ps : List Int) (a s : Ky) : Bool := decide (rkL u ss ps a.2 < rkL u ss ps s.1)
set_option maxHeartbeats 4000000 in
theorem ap11_any (Bt Bu : Nat) (f t u : Int) (A1 : Option Addr) (n1 c1 : Nat) (A2 : Option Addr) (n2 c2 : Nat) (ss ps : List Int) (a s : Sp) (w : World) (hC : TC w Bt Bu f t u A1 n1 c1 A2 n2 c2 ss ps) :
    Calls Try.prog 57 #[spV a, spV s, .pointer (some ⟨Bt, 0, none⟩), .pointer (some ⟨Bu, 0, none⟩)] w fun e w' => e = .returned (.bool (rA u ss ps (kyS a) (kyS s))) ∧ Below w.heap.size w w' := by
  have hmx : Try.prog.follows .mixedOrders = true := by kernel_rfl
  obtain ⟨X, hX⟩ : ∃ X, (w.alloc (.cells #[.int .i64 a.1, .int .i64 a.2.1, .int .i64 a.2.2.1, .int .i64 a.2.2.2] 26)).alloc (.cells #[.int .i64 s.1, .int .i64 s.2.1, .int .i64 s.2.2.1, .int .i64 s.2.2.2] 26) = X := ⟨_, rfl⟩
  have bX : Below w.heap.size w X := by rw [← hX]; exact ((Below.refl _ _).alloc (Nat.le_refl _) _).alloc (by simp only [World.size_alloc]; omega) _
  have q1 : X.cell? ⟨w.heap.size, 1, none⟩ = some (.int .i64 a.2.1) := by rw [← hX]; exact old_at _ _ _ _ (new_at w _ _ 1 _ rfl)
  have p0 : X.cell? ⟨w.heap.size + 1, 0, none⟩ = some (.int .i64 s.1) := by
    rw [← hX]
    have h := new_at (w.alloc (.cells #[.int .i64 a.1, .int .i64 a.2.1, .int .i64 a.2.2.1, .int .i64 a.2.2.2] 26)) #[.int .i64 s.1, .int .i64 s.2.1, .int .i64 s.2.2.1, .int .i64 s.2.2.2] 26 0 _ rfl
    simp only [World.size_alloc] at h
    exact h
  obtain ⟨cu, x0, x1, x2, x3, tx, hu⟩ := hC.kept (Kept.of bX)
  have z0 : ∀ r : WB X.heap.size X, r.w.cell? ⟨Bt, 0, none⟩ = some (.int .i64 f) := fun r => (r.ok.cell (World.block_lt_of_cell? X _ x0)).trans x0
  have z1 : ∀ r : WB X.heap.size X, r.w.cell? ⟨Bt, 1, none⟩ = some (.int .i64 t) := fun r => (r.ok.cell (World.block_lt_of_cell? X _ x1)).trans x1
  have z2 : ∀ r : WB X.heap.size X, r.w.cell? ⟨Bt, 2, none⟩ = some (.slice A1 n1 c1) := fun r => (r.ok.cell (World.block_lt_of_cell? X _ x2)).trans x2
  have z3 : ∀ r : WB X.heap.size X, r.w.cell? ⟨Bt, 3, none⟩ = some (.slice A2 n2 c2) := fun r => (r.ok.cell (World.block_lt_of_cell? X _ x3)).trans x3
  have zu : ∀ r : WB X.heap.size X, r.w.cell? ⟨Bu, 0, none⟩ = some (.int .i64 u) := fun r => (r.ok.cell (World.block_lt_of_cell? X _ cu)).trans cu
  have y0 : ∀ r : WB X.heap.size X, r.w.cell? ⟨w.heap.size, 1, none⟩ = some (.int .i64 a.2.1) := fun r => (r.ok.cell (World.block_lt_of_cell? X _ q1)).trans q1
  have y1 : ∀ r : WB X.heap.size X, r.w.cell? ⟨w.heap.size + 1, 0, none⟩ = some (.int .i64 s.1) := fun r => (r.ok.cell (World.block_lt_of_cell? X _ p0)).trans p0
  have K1 : Hid (∀ (x : Int) (r : WB X.heap.size X), Calls Try.prog 24 #[txV f t A1 n1 c1 A2 n2 c2, .int .i64 u, .int .i64 x] r.w fun e w' => e = .returned (.int .i64 (rkL u ss ps x)) ∧ Below r.w.heap.size r.w w') := fun x r => trank_any f t u x A1 n1 c1 A2 n2 c2 ss ps hu r.w (tx.up r.ok)
  have K2 := Lib.hid (K1.out a.2.1)
  have K3 := Lib.hid (K1.out s.1)
  have HB := Lib.hid bX
  have HX := Lib.hid hX
  unfold txV at K2 K3
  unfold rA kyS
  simp only
  generalize rkL u ss ps a.2.1 = ra at K2 ⊢
  generalize rkL u ss ps s.1 = rs at K3 ⊢
  clear hX bX q1 p0 cu x0 x1 x2 x3 tx K1 hC
  obtain ⟨a0, a1, a2, a3⟩ := a
  obtain ⟨s0, s1, s2, s3⟩ := s
  unfold spV
  simp only at HX y0 y1 K2 K3
  go_enter Try.func57, Try.ntmps57
  go_upto_region 1 with fail
  rw [HX.out]
  refine wp_region_quietB X.heap.size X hmx (by kernel_rfl) (Below.refl _ _) ?_
  repeat (go_big_quiet_step ((first
    | (go_at_call 24; with_reducible exact calls_quietB (K2.out _) (Nat.le_refl _))
    | (go_at_call 24; with_reducible exact calls_quietB (K3.out _) (Nat.le_refl _)))))
  refine wpQuiet_nil ?_
  intro _ hw'
  obtain ⟨pq, rfl⟩ := hw'
  go_wp2_with fail
  go_ret
  exact ⟨rfl, HB.out.trans (pq.ok.mono HB.out.size)⟩
def apP (u : Int) (ss ps : List Int) (l : List Sp) : Bool := nbP (rA u ss ps) l
set_option maxHeartbeats 1000000 in
theorem ap1_any (Bt Bu : Nat) (f t u : Int) (A1 : Option Addr) (n1 c1 : Nat) (A2 : Option Addr) (n2 c2 : Nat) (ss ps : List Int) (v : Value) (l : List Sp) (hl : l.length ≤ 1000000) (w : World) (hC : TC w Bt Bu f t u A1 n1 c1 A2 n2 c2 ss ps) (h : SV w w.heap.size v l) :
    Calls Try.prog 55 #[v, .pointer (some ⟨Bt, 0, none⟩), .pointer (some ⟨Bu, 0, none⟩)] w fun e w' => e = .returned (.bool (apP u ss ps l)) ∧ Below w.heap.size w w' := by
  have KN := Lib.hid (nb_any 57 #[.pointer (some ⟨Bt, 0, none⟩), .pointer (some ⟨Bu, 0, none⟩)] (rA u ss ps) v l hl w h ⟨enters_of Try.func57 (by kernel_rfl) rfl, fun W hW a s => ap11_any Bt Bu f t u A1 n1 c1 A2 n2 c2 ss ps a s W (hC.kept (Kept.of hW))⟩)
  obtain ⟨A, c, rfl, _⟩ := h
  unfold apP
  generalize l.length = n at KN ⊢
  generalize nbP (rA u ss ps) l = R at KN ⊢
  clear hC hl
  go_enter Try.func55, Try.ntmps55
  go_wp2_with fail
  with_reducible refine KN.out.mono ?_
  rintro e w1 ⟨rfl, b1⟩
  have HB := Lib.hid b1
  clear b1 KN
  go_wp2_with fail
  go_ret
  exact ⟨rfl, HB.out⟩
theorem MO.base {w0 w1 wr : World} {v : Value} {zs : List (Value × Value)} {ms : List Mt} (h : MO w1 wr v zs ms) (hb : Below w0.heap.size w0 w1) : MO w0 wr v zs ms :=
  ⟨own_le h.own hb.size, h.len, fun k h1 h2 => ⟨own_le (h.rows k h1 h2).1 hb.size, own_le (h.rows k h1 h2).2 hb.size⟩, h.sep, hb.trans (h.kb.mono hb.size)⟩
set_option maxHeartbeats 2000000 in
theorem apart_any (f t u : Int) (A1 : Option Addr) (n1 c1 : Nat) (A2 : Option Addr) (n2 c2 : Nat) (ss ps : List Int) (hu : u = 0 ∨ u = 1 ∨ u = 2) (A : Option Addr) (n c : Nat) (ms : List Mt) (HN : Hid (n = ms.length)) (hn : n ≤ 10000) (HSM : Hid (smM ms)) (w : World) (hT : Tx w A1 n1 c1 A2 n2 c2 ss ps) (h : MS w w.heap.size A ms) :
    Calls Try.prog 27 #[txV f t A1 n1 c1 A2 n2 c2, .slice A n c, .int .i64 u] w fun e w' => ∃ v zs, e = .returned v ∧ MO w w' v zs (thruL (apP u ss ps) ms) := by
  obtain ⟨X, hX⟩ : ∃ X, (w.alloc (.cells #[.int .i64 f, .int .i64 t, .slice A1 n1 c1, .slice A2 n2 c2] 38)).alloc (.cells #[.int .i64 u] 39) = X := ⟨_, rfl⟩
  have bX : Below w.heap.size w X := by rw [← hX]; exact ((Below.refl _ _).alloc (Nat.le_refl _) _).alloc (by simp only [World.size_alloc]; omega) _
  have hC : TC X w.heap.size (w.heap.size + 1) f t u A1 n1 c1 A2 n2 c2 ss ps := by
    have a : ∀ j v, (#[.int .i64 f, .int .i64 t, .slice A1 n1 c1, .slice A2 n2 c2] : Array Value)[j]? = some v → X.cell? ⟨w.heap.size, j, none⟩ = some v := fun j v h => by
      rw [← hX]
      exact old_at _ _ _ _ (new_at w _ _ j v h)
    refine ⟨?_, a 0 _ rfl, a 1 _ rfl, a 2 _ rfl, a 3 _ rfl, hT.up bX, hu⟩
    rw [← hX]
    have h := new_at (w.alloc (.cells #[.int .i64 f, .int .i64 t, .slice A1 n1 c1, .slice A2 n2 c2] 38)) #[.int .i64 u] 39 0 _ rfl
    simp only [World.size_alloc] at h
    exact h
  have HTH := Lib.hid (through_own 55 #[.pointer (some ⟨w.heap.size, 0, none⟩), .pointer (some ⟨w.heap.size + 1, 0, none⟩)] (apP u ss ps) A n c ms HN hn HSM 20000 (fun m hm => (HSM.out m hm).1) X (h.up bX) ⟨enters_of Try.func55 (by kernel_rfl) rfl, fun W hW v l hv hl => ap1_any _ _ f t u A1 n1 c1 A2 n2 c2 ss ps v l (by omega) W (hC.kept (Kept.of hW)) hv⟩)
  have HX := Lib.hid hX
  have HB := Lib.hid bX
  clear hX bX hC h hT
  unfold txV
  go_enter Try.func27, Try.ntmps27
  go_upto_region 1 with fail
  rw [HX.out]
  go_wp2_with fail
  with_reducible refine HTH.out.mono ?_
  rintro e w1 ⟨v, zs, rfl, hm⟩
  have HM := Lib.hid (hm.base HB.out)
  clear hm HTH
  go_wp2_with fail
  go_ret
  exact ⟨_, _, rfl, HM.out⟩
def fiP (f : Int) (l : List Sp) : Bool := l.any fun s => s.1 == f
set_option maxHeartbeats 1000000 in
theorem fi11_any (Bt : Nat) (f : Int) (s : Sp) (w : World) (hC : w.cell? ⟨Bt, 0, none⟩ = some (.int .i64 f)) :
    Calls Try.prog 64 #[spV s, .pointer (some ⟨Bt, 0, none⟩)] w fun e w' => e = .returned (.bool (s.1 == f)) ∧ Below w.heap.size w w' := by
  obtain ⟨s0, s1, s2, s3⟩ := s
  unfold spV
  simp only
  have hC' := old_at w (.cells #[.int .i64 s0, .int .i64 s1, .int .i64 s2, .int .i64 s3] 26) _ _ hC
  have HB : Hid (Below w.heap.size w (w.alloc (.cells #[.int .i64 s0, .int .i64 s1, .int .i64 s2, .int .i64 s3] 26))) := (Below.refl _ _).alloc (Nat.le_refl _) _
  clear hC
  go_enter Try.func64, Try.ntmps64
  go_wp2_with fail
  go_ret
  exact ⟨rfl, HB.out⟩
set_option maxHeartbeats 1000000 in
theorem fi1_any (Bt : Nat) (f : Int) (v : Value) (l : List Sp) (hl : l.length ≤ 100000) (w : World) (hC : w.cell? ⟨Bt, 0, none⟩ = some (.int .i64 f)) (h : SV w w.heap.size v l) :
    Calls Try.prog 63 #[v, .pointer (some ⟨Bt, 0, none⟩)] w fun e w' => e = .returned (.bool (fiP f l)) ∧ Below w.heap.size w w' := by
  obtain ⟨A, c, rfl, h1, h2, h3⟩ := h
  have KC := Lib.hid (scontains_any 64 #[.pointer (some ⟨Bt, 0, none⟩)] (fun s => s.1 == f) A l.length c l rfl hl w h3 ⟨enters_of Try.func64 (by kernel_rfl) rfl, fun W hW s => fi11_any Bt f s W ((Kept.of hW).cell hC)⟩)
  unfold fiP
  generalize l.length = n at KC ⊢
  generalize (l.any fun s => s.1 == f) = R at KC ⊢
  clear hC h1 h3 hl
  go_enter Try.func63, Try.ntmps63
  go_wp2_with fail
  with_reducible refine KC.out.mono ?_
  rintro e w1 ⟨rfl, b1⟩
  have HB := Lib.hid b1
  clear b1 KC
  go_wp2_with fail
  go_ret
  exact ⟨rfl, HB.out⟩
set_option maxHeartbeats 2000000 in
theorem first_any (f t : Int) (A1 : Option Addr) (n1 c1 : Nat) (A2 : Option Addr) (n2 c2 : Nat) (A : Option Addr) (n c : Nat) (ms : List Mt) (HN : Hid (n = ms.length)) (hn : n ≤ 10000) (HSM : Hid (smM ms)) (w : World) (h : MS w w.heap.size A ms) :
    Calls Try.prog 31 #[txV f t A1 n1 c1 A2 n2 c2, .slice A n c] w fun e w' => ∃ v zs, e = .returned v ∧ MO w w' v zs (thruL (fiP f) ms) := by
  obtain ⟨X, hX⟩ : ∃ X, w.alloc (.cells #[.int .i64 f, .int .i64 t, .slice A1 n1 c1, .slice A2 n2 c2] 38) = X := ⟨_, rfl⟩
  have bX : Below w.heap.size w X := by rw [← hX]; exact (Below.refl _ _).alloc (Nat.le_refl _) _
  have hC : X.cell? ⟨w.heap.size, 0, none⟩ = some (.int .i64 f) := by rw [← hX]; exact new_at w _ _ 0 _ rfl
  have HTH := Lib.hid (through_own 63 #[.pointer (some ⟨w.heap.size, 0, none⟩)] (fiP f) A n c ms HN hn HSM 20000 (fun m hm => (HSM.out m hm).1) X (h.up bX) ⟨enters_of Try.func63 (by kernel_rfl) rfl, fun W hW v l hv hl => fi1_any _ f v l (by omega) W ((Kept.of hW).cell hC) hv⟩)
  have HX := Lib.hid hX
  have HB := Lib.hid bX
  clear hX bX hC h
  unfold txV
  go_enter Try.func31, Try.ntmps31
  go_upto_region 1 with fail
  rw [HX.out]
  go_wp2_with fail
  with_reducible refine HTH.out.mono ?_
  rintro e w1 ⟨v, zs, rfl, hm⟩
  have HM := Lib.hid (hm.base HB.out)
  clear hm HTH
  go_wp2_with fail
  go_ret
  exact ⟨_, _, rfl, HM.out⟩
end Go.Proofs.Ytafbjadlklcicaa
