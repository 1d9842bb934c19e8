/- (*Cursor).look. -/
import Derived.Test.YtjigaoclngfcaaaPoCu
import Derived.BigRegion
import Derived.Handy
namespace Go.Proofs.Ytjigaoclngfcaaa
open Go.RowKit
set_option maxRecDepth 100000

/-- What a cursor tells. -/
def HitV (w : World) (B : Nat) : Option HN → Value → Prop
  | none, v => v = .tuple #[.agg #[.int .i64 0, .slice none 0 0], .bool false]
  | some h, v => ∃ A c, v = .tuple #[.agg #[.int .i64 h.1, .slice A h.2.length c], .bool true] ∧ h.2.length ≤ c ∧ c ≤ maxLen ∧ CS w w.heap.size A ((h.2.map fun (n : Nat) => (n : Int)).map eI) ∧ ∀ a, A = some a → B ≤ a.block
theorem HitV.none_ (w : World) (B : Nat) : HitV w B none (.tuple #[.agg #[.int .i64 0, .slice none 0 0], .bool false]) := rfl
/-- What look finds at its beginning. -/
structure LK (G : Nat → Prop) (w : World) (C : Nat) (st : PS) (P1 : Nat → Prop) (l1 : List UInt8) (e1 : Int) (P2 : Nat → Prop) (W1 : World) : Prop where
  cm : CM W1 C st.sk st.bh st.la (st.he - 1 : Nat) st.dc P1 l1 e1 P2 st.kb 0
  kx : KX C w W1
  r : ∀ W, KX C W1 W → W.cell? ⟨w.heap.size, 0, none⟩ = some (.int .i64 0) ∧ W.cell? ⟨w.heap.size, 1, none⟩ = some (.slice none 0 0) ∧ W.frozen? ⟨w.heap.size, 0, none⟩ = false ∧ W.frozen? ⟨w.heap.size, 1, none⟩ = false
  n1 : ¬ P1 w.heap.size
  n2 : ¬ P2 w.heap.size
  ne : w.heap.size ≠ C
  lt : w.heap.size < W1.heap.size
  er : e1 = 0 ∨ e1 = 2
  bb : st.bb = if e1 = 0 then some l1 else none
  z1 : l1.length ≤ 10000
  z2 : st.kb.length ≤ 10000
  g1 : ∀ b, G b → ¬ P1 b
  g2 : ∀ b, G b → ¬ P2 b
theorem Cur.lk {G : Nat → Prop} {w : World} {C : Nat} {st : PS} (h : Cur G w C st) (hhe : 0 < st.he) (X W1 : World) (hX : w.alloc (.cells #[.int .i64 0, .slice none 0 0] 37) = X) (hW : X.setCell ⟨C, 7, none⟩ (.int .i64 ((st.he - 1 : Nat) : Int)) = W1) :
    ∃ P1 l1 e1 P2, LK G w C st P1 l1 e1 P2 W1 ∧ X.cell? ⟨C, 7, none⟩ = some (.int .i64 st.he) ∧ X.frozen? ⟨C, 7, none⟩ = false := by
  obtain ⟨d, P1, l1, e1, P2, l2, e2, hc, k1, k2, k3, k4, k5, k6, k7, k8⟩ := h.cm
  obtain ⟨rfl, rfl⟩ := k4 hhe
  obtain rfl := k6 hhe
  have bX : Below w.heap.size w X := by rw [← hX]; exact (Below.refl _ _).alloc (Nat.le_refl _) _
  have hcX := hc.below bX
  have hC1 := hcX.set7 ((st.he - 1 : Nat) : Int)
  rw [hW] at hC1
  have xr : X.cell? ⟨w.heap.size, 0, none⟩ = some (.int .i64 0) ∧ X.cell? ⟨w.heap.size, 1, none⟩ = some (.slice none 0 0) ∧ X.frozen? ⟨w.heap.size, 0, none⟩ = false ∧ X.frozen? ⟨w.heap.size, 1, none⟩ = false := by
    rw [← hX]
    exact ⟨by simp, by simp, by simp, by simp⟩
  have hCw : C < w.heap.size := h.lt
  have sX : X.heap.size = w.heap.size + 1 := by rw [← hX]; simp
  have kX : KX C X W1 := by rw [← hW]; exact KX.set _
  refine ⟨P1, l1, e1, P2, ⟨hC1, (KX.of_below bX (Nat.le_refl _)).trans kX, fun W hk => ?_, fun hp => ?_, fun hp => ?_, by omega, by have := kX.size; omega, k1, k2, k3, k5, k7, k8⟩, hcX.c7, hcX.fr 7⟩
  · have hb := (kX.trans hk).blk w.heap.size (by omega) (by omega)
    exact ⟨(cellH hb).trans xr.1, (cellH hb).trans xr.2.1, (frozH hb).trans xr.2.2.1, (frozH hb).trans xr.2.2.2⟩
  · exact absurd (hc.r1.1 _ hp).2 (Nat.lt_irrefl _)
  · exact absurd (hc.r5.1 _ hp).2 (Nat.lt_irrefl _)
/-- look ends where the bytes are no hit's. -/
theorem LK.fin {G : Nat → Prop} {w : World} {C : Nat} {st : PS} {P1 : Nat → Prop} {l1 : List UInt8} {e1 : Int} {P2 : Nat → Prop} {W1 W : World} {he dc : Int} {l2 : List UInt8} (h : LK G w C st P1 l1 e1 P2 W1) (hc : Cur G w C st) (hk : KX C W1 W) (hm : CM W C st.sk st.bh st.la he dc P1 l1 e1 P2 l2 2) (hl : l2.length ≤ 10000) :
    Cur G (((((W.setCell ⟨C, 7, none⟩ (.int .i64 0)).setCell ⟨C, 3, none⟩ (.int .i64 0)).setCell ⟨w.heap.size, 0, none⟩ (.int .i64 0)).setCell ⟨w.heap.size, 1, none⟩ (.slice none 0 0))) C { st with he := 0, bh := 0 } ∧
      KX C w (((((W.setCell ⟨C, 7, none⟩ (.int .i64 0)).setCell ⟨C, 3, none⟩ (.int .i64 0)).setCell ⟨w.heap.size, 0, none⟩ (.int .i64 0)).setCell ⟨w.heap.size, 1, none⟩ (.slice none 0 0))) ∧
      (((((W.setCell ⟨C, 7, none⟩ (.int .i64 0)).setCell ⟨C, 3, none⟩ (.int .i64 0)).setCell ⟨w.heap.size, 0, none⟩ (.int .i64 0)).setCell ⟨w.heap.size, 1, none⟩ (.slice none 0 0))).cell? ⟨w.heap.size, 0, none⟩ = some (.int .i64 0) ∧ (((((W.setCell ⟨C, 7, none⟩ (.int .i64 0)).setCell ⟨C, 3, none⟩ (.int .i64 0)).setCell ⟨w.heap.size, 0, none⟩ (.int .i64 0)).setCell ⟨w.heap.size, 1, none⟩ (.slice none 0 0))).cell? ⟨w.heap.size, 1, none⟩ = some (.slice none 0 0) := by
  obtain ⟨r0, r1, _, _⟩ := h.r W hk
  have o : ∀ (V : World) (k j : Nat) (v : Value), (V.setCell ⟨C, k, none⟩ v).cell? ⟨w.heap.size, j, none⟩ = V.cell? ⟨w.heap.size, j, none⟩ := fun V k j v => World.cell?_setCell_other _ _ _ _ (by intro e; injection e with e _; exact h.ne e.symm)
  have h1 := (((hm.set7 0).set3 0).res w.heap.size 0 (.int .i64 0) h.ne h.n1 h.n2).res w.heap.size 1 (.slice none 0 0) h.ne h.n1 h.n2
  refine ⟨CM.cur (st := { st with he := 0, bh := 0 }) h1 h.er h.bb h.z1 (fun h => absurd h (Nat.lt_irrefl _)) hl (fun h => absurd h (Nat.lt_irrefl _)) (Nat.zero_le _) (Nat.zero_le _) (by have := hc.b3; simp only; omega) (fun h => absurd h (Nat.lt_irrefl _)) (by have := hc.b5; simp only; omega) (fun k => by have := hc.b6 k; simp only; omega) h.g1 h.g2, ?_⟩
  have a := (h.kx.trans hk).trans ((KX.set (w := W) (C := C) (o := 7) (.int .i64 0)).trans (KX.set (o := 3) (.int .i64 0)))
  have b : KX C w ((((W.setCell ⟨C, 7, none⟩ (.int .i64 0)).setCell ⟨C, 3, none⟩ (.int .i64 0)).setCell ⟨w.heap.size, 0, none⟩ (.int .i64 0))) := ⟨a.os, a.tape, a.output, by have := a.size; simpa [World.setCell] using this, fun g hg hs => (Below.heap_setCell _ _ _ _ (by show g ≠ w.heap.size; omega)).trans (a.blk g hg hs)⟩
  refine ⟨⟨b.os, b.tape, b.output, by have := b.size; simpa [World.setCell] using this, fun g hg hs => (Below.heap_setCell _ _ _ _ (by show g ≠ w.heap.size; omega)).trans (b.blk g hg hs)⟩, ?_, ?_⟩
  · rw [so (by decide)]
    exact World.cell?_setCell_same _ _ _ (by rw [o, o, r0])
  · exact World.cell?_setCell_same _ _ _ (by rw [so (by decide), o, o, r1])
set_option maxHeartbeats 1000000 in
theorem look_no1 (G : Nat → Prop) (C : Nat) (st : PS) (w : World) (h : Cur G w C st) (hhe : 0 < st.he) (HK : Hid (rdN st.kb 1000 = none)) :
    Calls Try.prog 47 #[.pointer (some ⟨C, 0, none⟩)] w fun e w' => ∃ v, e = .returned v ∧ HitV w' w.heap.size (lookP st).1 v ∧ Cur G w' C (lookP st).2 ∧ KX C w w' := by
  obtain ⟨X, hX⟩ : ∃ X, w.alloc (.cells #[.int .i64 0, .slice none 0 0] 37) = X := ⟨_, rfl⟩
  obtain ⟨he1, hhe1⟩ : ∃ he1, he1 = st.he - 1 := ⟨_, rfl⟩
  have hne : ((st.he : Nat) : Int) - 1 = (he1 : Int) := by omega
  obtain ⟨W1, hW1⟩ : ∃ W1, X.setCell ⟨C, 7, none⟩ (.int .i64 (he1 : Int)) = W1 := ⟨_, rfl⟩
  obtain ⟨P1, l1, e1, P2, hlk, x7, f7⟩ := h.lk hhe X W1 hX (by rw [← hhe1]; exact hW1)
  have HLK := Lib.hid hlk
  have HC := Lib.hid h
  have hb2 := h.b2
  have hb4 := h.b4 hhe
  have q8 : IntKind.i64.wrap ((st.dc : Nat) : Int) = ((st.dc : Nat) : Int) := by rw [IntKind.wrap_i64]; omega
  have bd : Below W1.heap.size W1 W1.drew := (Below.refl _ _).drew
  have KN : Hid (Calls Try.prog 45 #[.pointer (some ⟨C, 5, none⟩), .int .i64 1000] W1.drew fun e w' => e = .returned (.int .i64 0) ∧ MvO W1.drew w' C 5 P2 st.kb 2) := num_none_o C 5 P2 st.kb 1000 W1.drew (hlk.cm.below bd).r5 (by have := hlk.z2; omega) HK (by decide)
  have HCd := Lib.hid (hlk.cm.below bd)
  have KXd : Hid (KX C W1 W1.drew) := KX.of_below bd (Nat.le_refl _)
  have y8 := HCd.out.c8
  have hL : Hid (lookP st = (none, { st with he := 0, bh := 0 })) := by show _ = _; unfold lookP; rw [hitP_no1 HK.out]; rfl
  clear h hlk bd hhe1
  go_enter Try.func47, Try.ntmps47
  go_wp2_with fail
  go_region_with (first | (go_at_call 45; (with_reducible refine KN.out.mono ?_); rintro e w2 ⟨rfl, m2⟩; have hC2 := HCd.out.mv5 m2; have z8 := hC2.c8; have f8 := hC2.fr 8))
  all_goals
    have hC3 := hC2.set8 ((st.dc : Nat) : Int)
    have hK3 := KXd.out.trans (m2.kx.trans (KX.set (o := 8) (.int .i64 ((st.dc : Nat) : Int))))
    obtain ⟨W3, hW3⟩ : ∃ W3, w2.setCell ⟨C, 8, none⟩ (.int .i64 ((st.dc : Nat) : Int)) = W3 := ⟨_, rfl⟩
    rw [hW3] at hC3 hK3
    have z9 := hC3.c8
    have b4 : Below W3.heap.size W3 (W3.alloc (.cells #[.int .i64 ((st.dc : Nat) : Int), .slice none 0 0] 37)) := (Below.refl _ _).alloc (Nat.le_refl _) _
    have hC4 := hC3.below b4
    have hK4 := hK3.trans (KX.of_below b4 (Nat.le_refl _))
    have HC4 := Lib.hid hC4
    have HK4 := Lib.hid hK4
    clear hC2 hC3 hK3 b4 hC4 hK4 m2 y8 z8
    go_wp2_with fail
    (with_reducible refine (num_err_o C 5 P2 _ 65536 _ HC4.out.r5).mono ?_)
    rintro e w5 ⟨rfl, rfl⟩
    go_wp2_with fail
    go_loopw [33] (fun s33 wr => s33 = .int .i64 0 ∧ (W3.alloc (.cells #[.int .i64 ((st.dc : Nat) : Int), .slice none 0 0] 37)) = wr) (fun _ _ => 0)
    case atStart => exact ⟨rfl, rfl⟩
    case round =>
      obtain ⟨rfl, rfl⟩ := hrel
      go_wp2_with fail
      (with_reducible refine (err_o C 5 P2 _ 2 _ HC4.out.r5).mono ?_)
      rintro e w6 ⟨rfl, rfl⟩
      have u7 := HC4.out.c7
      have u3 := HC4.out.c3
      have g7 := HC4.out.fr 7
      have g3 := HC4.out.fr 3
      obtain ⟨r0, r1, r2, r3⟩ := HLK.out.r _ HK4.out
      have hne0 := HLK.out.ne
      have FIN := Lib.hid (HLK.out.fin HC.out HK4.out HC4.out HLK.out.z2)
      go_wp2_with fail
      have q0 := FIN.out.2.2.1
      have q1 := FIN.out.2.2.2
      refine bodyPost_ret (v := .tuple #[.agg #[.int .i64 0, .slice none 0 0], .bool false]) ?_ rfl ⟨_, rfl, by rw [hL.out]; rfl, by rw [hL.out]; exact FIN.out.1, FIN.out.2.1⟩
      simp [results, Try.results47, go_sem, q0, q1]
end Go.Proofs.Ytjigaoclngfcaaa
