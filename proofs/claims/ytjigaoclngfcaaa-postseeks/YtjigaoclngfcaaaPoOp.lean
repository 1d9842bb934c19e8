/- (*Cursor).Next; Open. -/
import Derived.Test.YtjigaoclngfcaaaPoSk
namespace Go.Proofs.Ytjigaoclngfcaaa
open Go.RowKit
set_option maxRecDepth 100000

set_option maxHeartbeats 1000000 in
theorem next_any (G : Nat → Prop) (C : Nat) (st : PS) (w : World) (h : Cur G w C st) (hG : ∀ b, G b → b < w.heap.size) (F0 : Nat) (hF0 : st.he + st.bh < F0) :
    Calls Try.prog 24 #[.pointer (some ⟨C, 0, none⟩)] w fun e w' => ∃ v, e = .returned v ∧ HitV w' w.heap.size (seekP 0 F0 st).1 v ∧ Cur G w' C (seekP 0 F0 st).2 ∧ KX C w w' := by
  obtain ⟨X, hX⟩ : ∃ X, w.alloc (.cells #[.int .i64 0, .slice none 0 0] 37) = X := ⟨_, rfl⟩
  have bX : Below w.heap.size w X := by rw [← hX]; exact (Below.refl _ _).alloc (Nat.le_refl _) _
  have sX : w.heap.size < X.heap.size := by rw [← hX]; simp
  have KS := Lib.hid (seek_any G C st X 0 (h.below bX) (fun b hb => by have := hG b hb; omega) F0 hF0)
  have hrC : w.heap.size ≠ C := by have := h.lt; omega
  have HRX : Hid (RC X w.heap.size) := by show RC _ _; rw [← hX]; exact RC.new w
  have HKX : Hid (KX C w X) := KX.of_below bX (Nat.le_refl _)
  obtain ⟨o, ho⟩ : ∃ o, o = (seekP 0 F0 st).1 := ⟨_, rfl⟩
  obtain ⟨s2, hs2⟩ : ∃ s2, s2 = (seekP 0 F0 st).2 := ⟨_, rfl⟩
  rw [← ho, ← hs2] at KS ⊢
  clear h bX ho hs2 hG
  go_enter Try.func24, Try.ntmps24
  go_wp2_with fail
  (with_reducible refine KS.out.mono ?_)
  rintro e w2 ⟨v, rfl, hv, hc2, k2⟩
  have HR2 := Lib.hid (HRX.out.kx k2 hrC)
  have HK2 := Lib.hid (HKX.out.trans k2)
  obtain ⟨r0, r1, r2, r3⟩ := HR2.out.facts
  have g0 := r2 0
  have g1 := r2 1
  have HC2 := Lib.hid hc2
  cases o with
  | none =>
    have hv' : v = .tuple #[.agg #[.int .i64 0, .slice none 0 0], .bool false] := hv
    subst hv'
    have FIN := Lib.hid (And.intro (HC2.out.res w.heap.size (.int .i64 0) (.slice none 0 0) hrC r3) (HK2.out.res (Nat.le_refl _) (.int .i64 0) (.slice none 0 0)))
    have q0 : ((w2.setCell ⟨w.heap.size, 0, none⟩ (.int .i64 0)).setCell ⟨w.heap.size, 1, none⟩ (.slice none 0 0)).cell? ⟨w.heap.size, 0, none⟩ = some (.int .i64 0) := by rw [so (by decide)]; exact World.cell?_setCell_same _ _ _ (by rw [r0])
    have q1 : ((w2.setCell ⟨w.heap.size, 0, none⟩ (.int .i64 0)).setCell ⟨w.heap.size, 1, none⟩ (.slice none 0 0)).cell? ⟨w.heap.size, 1, none⟩ = some (.slice none 0 0) := World.cell?_setCell_same _ _ _ (by rw [so (by decide), r1])
    have Q := Lib.hid (And.intro q0 q1)
    clear hc2 k2 r3 q0 q1 hv
    go_wp2_with fail
    have q0 := Q.out.1
    have q1 := Q.out.2
    refine bodyPost_ret (v := .tuple #[.agg #[.int .i64 0, .slice none 0 0], .bool false]) ?_ rfl ⟨_, rfl, rfl, FIN.out.1, FIN.out.2⟩
    simp [results, Try.results24, go_sem, q0, q1]
  | some hx =>
    obtain ⟨A9, c9, rfl, hn9, hm9, hcs9, hob9⟩ := hv
    obtain ⟨d, ps⟩ := hx
    obtain ⟨n9, hn9'⟩ : ∃ n9, n9 = ps.length := ⟨_, rfl⟩
    have HN9 := Lib.hid hn9'
    simp only
    rw [← hn9']
    have FIN : Hid (Cur G ((w2.setCell ⟨w.heap.size, 0, none⟩ (.int .i64 d)).setCell ⟨w.heap.size, 1, none⟩ (.slice A9 n9 c9)) C s2 ∧ KX C w ((w2.setCell ⟨w.heap.size, 0, none⟩ (.int .i64 d)).setCell ⟨w.heap.size, 1, none⟩ (.slice A9 n9 c9)) ∧
        ((w2.setCell ⟨w.heap.size, 0, none⟩ (.int .i64 d)).setCell ⟨w.heap.size, 1, none⟩ (.slice A9 n9 c9)).cell? ⟨w.heap.size, 0, none⟩ = some (.int .i64 d) ∧ ((w2.setCell ⟨w.heap.size, 0, none⟩ (.int .i64 d)).setCell ⟨w.heap.size, 1, none⟩ (.slice A9 n9 c9)).cell? ⟨w.heap.size, 1, none⟩ = some (.slice A9 n9 c9) ∧
        HitV ((w2.setCell ⟨w.heap.size, 0, none⟩ (.int .i64 d)).setCell ⟨w.heap.size, 1, none⟩ (.slice A9 n9 c9)) w.heap.size (some (d, ps)) (.tuple #[.agg #[.int .i64 d, .slice A9 n9 c9], .bool true])) := by
      refine ⟨HC2.out.res w.heap.size _ _ hrC r3, HK2.out.res (Nat.le_refl _) _ _, ?_, ?_, A9, c9, by rw [hn9'], hn9, hm9, fun hp => ?_, fun a e => by have := hob9 a e; omega⟩
      · rw [so (by decide)]; exact World.cell?_setCell_same _ _ _ (by rw [r0])
      · exact World.cell?_setCell_same _ _ _ (by rw [so (by decide), r1])
      · obtain ⟨b, o, rfl, hb, hcl⟩ := hcs9 hp
        have hge := hob9 _ rfl
        have hge' : X.heap.size ≤ b := hge
        refine ⟨b, o, rfl, by simpa [World.setCell] using hb, fun k u hu => ?_⟩
        rw [World.cell?_setCell_other _ _ _ _ (by intro e; injection e with e _; omega), World.cell?_setCell_other _ _ _ _ (by intro e; injection e with e _; omega)]
        exact hcl k u hu
    have Q := Lib.hid (And.intro FIN.out.2.2.1 FIN.out.2.2.2.1)
    clear hc2 k2 r3 hn9 hm9 hcs9 hob9 hn9'
    go_wp2_with fail
    have q0 := Q.out.1
    have q1 := Q.out.2
    refine bodyPost_ret (v := .tuple #[.agg #[.int .i64 d, .slice A9 n9 c9], .bool true]) ?_ rfl ⟨_, rfl, FIN.out.2.2.2.2, FIN.out.1, FIN.out.2.1⟩
    simp [results, Try.results24, go_sem, q0, q1]
def openP (l : List UInt8) : PS := (rdN l 1000).elim ⟨0, none, 0, 0, [], 0, 0⟩ fun x => ⟨0, some x.2, x.1, 0, [], 0, 0⟩
set_option maxHeartbeats 1000000 in
theorem open_any (G : Nat → Prop) (A : Option Addr) (n c : Nat) (l : List UInt8) (HL : Hid (n = l.length)) (hl : l.length ≤ 10000) (w : World) (hG : ∀ b, G b → b < w.heap.size) (hb : BS w w.heap.size A l) :
    Calls Try.prog 21 #[.slice A n c] w fun e w' => ∃ C, e = .returned (.pointer (some ⟨C, 0, none⟩)) ∧ Cur G w' C (openP l) ∧ Below w.heap.size w w' ∧ w.heap.size ≤ C ∧ C < w'.heap.size := by
  have KR := Lib.hid (read_o A n c l w HL.out (by omega) hb)
  have HG := Lib.hid hG
  clear hb hG
  go_enter Try.func21, Try.ntmps21
  go_wp2_with fail
  (with_reducible refine KR.out.mono ?_)
  rintro e w2 ⟨R, rfl, hrd, b2, hR1, hR2⟩
  obtain ⟨hP, A7, c7, x0, x1, y0, y1, hcc, hbn⟩ := hrd
  obtain ⟨n7, hn7⟩ : ∃ n7, n7 = l.length := ⟨_, rfl⟩
  rw [← hn7] at x0 hcc
  have HN7 := Lib.hid hn7
  obtain ⟨X, hX⟩ : ∃ X, w2.alloc (.cells #[.int .i64 0, .slice A7 n7 c7, .int .i64 0, .int .i64 0, .int .i64 0, .slice none 0 0, .int .i64 0, .int .i64 0, .int .i64 0] 46) = X := ⟨_, rfl⟩
  have bX : Below w2.heap.size w2 X := by rw [← hX]; exact (Below.refl _ _).alloc (Nat.le_refl _) _
  have sX : w2.heap.size < X.heap.size := by rw [← hX]; simp
  have hC : CM X w2.heap.size 0 0 0 0 0 (fun b => w.heap.size ≤ b ∧ b < R) l 0 (fun _ => False) [] 0 := by
    rw [← hX]
    refine ⟨by simp, ⟨fun b hb => ⟨by omega, by simp; omega⟩, A7, c7, by rw [← hn7]; simp, by simp, by simp, by simp, by omega, hbn.keep fun p hp => ((Below.refl w2.heap.size w2).alloc (Nat.le_refl _) _).cell (p := p) (by omega)⟩, by simp, by simp, ⟨fun b hb => hb.elim, none, 0, by simp, by simp, by simp, by simp, Nat.le_refl _, fun h => absurd h (by simp)⟩, by simp, by simp, fun k => by simp⟩
  have HC := Lib.hid hC
  have HB := Lib.hid (b2.trans (bX.mono b2.size))
  have hsw := b2.size
  clear hC b2 bX hbn hn7
  cases hN : rdN l 1000 with
  | none =>
    have HN := Lib.hid hN
    have hO : Hid (openP l = ⟨0, none, 0, 0, [], 0, 0⟩) := by show _ = _; unfold openP; rw [hN]; rfl
    clear hN
    go_wp2_with fail
    (with_reducible refine (num1k_none w2.heap.size 1 _ l _ HC.out.r1 (by omega) HN).mono ?_)
    rintro e w3 ⟨rfl, m3⟩
    have hC3 := HC.out.mv1 m3
    have z3 := hC3.c3
    have f3 := hC3.fr 3
    have HC4 := Lib.hid (hC3.set3 0)
    have HK := Lib.hid ((HB.out.trans (m3.kx.below (by omega : w.heap.size ≤ w2.heap.size) (by omega))).setCell (p := ⟨w2.heap.size, 3, none⟩) hsw (.int .i64 0))
    have hss := m3.size
    clear hC3 m3
    go_wp2_with fail
    go_ret
    refine ⟨w2.heap.size, rfl, ?_, HK.out, hsw, by simp [World.setCell]; omega⟩
    rw [hO.out]
    exact CM.cur (st := ⟨0, none, 0, 0, [], 0, 0⟩) HC4.out (.inr rfl) rfl hl (fun h => absurd h (Nat.lt_irrefl _)) (by simp) (fun h => absurd h (Nat.lt_irrefl _)) (by decide) (by decide) (by decide) (fun h => absurd h (Nat.lt_irrefl _)) (by decide) (fun h => by cases h) (fun b hb hp => by have := HG.out b hb; have := hp.1; omega) (fun _ _ h => h)
  | some p =>
    obtain ⟨m, r⟩ := p
    have HN := Lib.hid hN
    have hmb := (rdN_some hN).2.1
    have hrl := rdN_len hN
    have hO : Hid (openP l = ⟨0, some r, m, 0, [], 0, 0⟩) := by show _ = _; unfold openP; rw [hN]; rfl
    clear hN
    go_wp2_with fail
    (with_reducible refine (num1k_some w2.heap.size 1 _ l m r _ HC.out.r1 (by omega) HN).mono ?_)
    rintro e w3 ⟨rfl, m3⟩
    have hC3 := HC.out.mv1 m3
    have z3 := hC3.c3
    have f3 := hC3.fr 3
    have HC4 := Lib.hid (hC3.set3 (m : Int))
    have HK := Lib.hid ((HB.out.trans (m3.kx.below (by omega : w.heap.size ≤ w2.heap.size) (by omega))).setCell (p := ⟨w2.heap.size, 3, none⟩) hsw (.int .i64 (m : Int)))
    have hss := m3.size
    clear hC3 m3
    go_wp2_with fail
    go_ret
    refine ⟨w2.heap.size, rfl, ?_, HK.out, hsw, by simp [World.setCell]; omega⟩
    rw [hO.out]
    exact CM.cur (st := ⟨0, some r, m, 0, [], 0, 0⟩) HC4.out (.inl rfl) rfl (by omega) (fun h => absurd h (Nat.lt_irrefl _)) (by simp) (fun h => absurd h (Nat.lt_irrefl _)) hmb (Nat.zero_le _) (by simp only; omega) (fun h => absurd h (Nat.lt_irrefl _)) (by simp only; omega) (fun _ => by simp only; omega) (fun b hb hp => by have := HG.out b hb; have := hp.1; omega) (fun _ _ h => h)
end Go.Proofs.Ytjigaoclngfcaaa
