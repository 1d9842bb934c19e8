/- (*Cursor).Seek, Next; Open. -/
import Derived.Test.YtjigaoclngfcaaaPoEt
namespace Go.Proofs.Ytjigaoclngfcaaa
open Go.RowKit
set_option maxRecDepth 100000

theorem enterP_true (doc : Int) : ∀ (f : Nat) (st : PS), (enterP doc f st).1 = true → 0 < (enterP doc f st).2.he ∧ (enterP doc f st).2.he + (enterP doc f st).2.bh ≤ st.bh
  | 0, st, h => by cases h
  | f + 1, st, h => by
    by_cases hb : st.bh = 0
    · rw [enterP_zero doc _ st hb] at h; cases h
    · cases hbb : st.bb with
      | none => rw [enterP_err doc f st hb hbb] at h; cases h
      | some l =>
        cases h1 : rdN l 1000 with
        | none => rw [enterP_e1 doc f st l hb hbb h1] at h; cases h
        | some p =>
          obtain ⟨x, l1⟩ := p
          cases h2 : rdT l1 with
          | none => rw [enterP_e2 doc f st l l1 x hb hbb h1 h2] at h; cases h
          | some q =>
            obtain ⟨t, l2⟩ := q
            rw [enterP_at doc f st l l1 t l2 x hb hbb h1 h2] at h ⊢
            by_cases hd : doc ≤ ((st.la + x : Nat) : Int)
            · rw [if_pos hd]
              simp only
              omega
            · rw [if_neg hd] at h ⊢
              have := enterP_true doc f _ h
              simp only at this
              omega
theorem lookP_T (s : PS) (h : 0 < s.he) : (lookP s).2.he + (lookP s).2.bh < s.he + s.bh := by
  unfold lookP
  cases hitP s.kb s.dc with
  | none => show 0 + 0 < _; omega
  | some x => show s.he - 1 + s.bh < _; omega
theorem seekP_out (doc : Int) (f : Nat) (st : PS) (h : st.he = 0) (k : (enterP doc st.bh st).1 = false) : seekP doc (f + 1) st = (none, (enterP doc st.bh st).2) := by
  rw [seekP, k, decide_eq_false (by omega)]
  rfl
theorem seekP_here (doc : Int) (f : Nat) (st : PS) (h : 0 < st.he) : seekP doc (f + 1) st = (lookP st).1.elim (seekP doc f (lookP st).2) fun x => if doc ≤ (x.1 : Int) then (some x, (lookP st).2) else seekP doc f (lookP st).2 := by
  rw [seekP, decide_eq_true h]
  rfl
theorem seekP_in (doc : Int) (f : Nat) (st : PS) (h : st.he = 0) (k : (enterP doc st.bh st).1 = true) : seekP doc (f + 1) st = (lookP (enterP doc st.bh st).2).1.elim (seekP doc f (lookP (enterP doc st.bh st).2).2) fun x => if doc ≤ (x.1 : Int) then (some x, (lookP (enterP doc st.bh st).2).2) else seekP doc f (lookP (enterP doc st.bh st).2).2 := by
  rw [seekP, k, decide_eq_false (by omega)]
  rfl
theorem RdO.off {w : World} {C o : Nat} {P : Nat → Prop} {l : List UInt8} {e : Int} (h : RdO w C o P l e) (r : Nat) (hr : ∀ k (n : Int), w.cell? ⟨r, k, none⟩ ≠ some (.int .u8 n)) : RdO w C o (fun b => P b ∧ b ≠ r) l e := by
  obtain ⟨hP, A, c, c0, c1, g0, g1, hc, hn⟩ := h
  refine ⟨fun b hb => hP b hb.1, A, c, c0, c1, g0, g1, hc, fun hp => ?_⟩
  obtain ⟨b, off, e, hb, hcl⟩ := hn hp
  exact ⟨b, off, e, ⟨hb, fun e => by subst e; exact hr _ _ (hcl 0 hp)⟩, hcl⟩
/-- A cursor stays where a result's variable is written. -/
theorem Cur.res {G : Nat → Prop} {w : World} {C : Nat} {st : PS} (h : Cur G w C st) (r : Nat) (v0 v1 : Value) (hC : r ≠ C) (hr : ∀ k (n : Int), w.cell? ⟨r, k, none⟩ ≠ some (.int .u8 n)) : Cur G ((w.setCell ⟨r, 0, none⟩ v0).setCell ⟨r, 1, none⟩ v1) C st := by
  obtain ⟨d, P1, l1, e1, P2, l2, e2, hc, k1, k2, k3, k4, k5, k6, k7, k8⟩ := h.cm
  have h1 : CM w C st.sk st.bh st.la st.he d (fun b => P1 b ∧ b ≠ r) l1 e1 (fun b => P2 b ∧ b ≠ r) l2 e2 := ⟨hc.c0, hc.r1.off r hr, hc.c3, hc.c4, hc.r5.off r hr, hc.c7, hc.c8, hc.fr⟩
  exact CM.cur ((h1.res r 0 v0 hC (fun h => h.2 rfl) (fun h => h.2 rfl)).res r 1 v1 hC (fun h => h.2 rfl) (fun h => h.2 rfl)) k1 k2 k3 k4 k5 k6 h.b1 h.b2 h.b3 h.b4 h.b5 h.b6 (fun b hb hp => k7 b hb hp.1) (fun b hb hp => k8 b hb hp.1)
theorem KX.res {C : Nat} {w W : World} {r : Nat} (h : KX C w W) (hr : w.heap.size ≤ r) (v0 v1 : Value) : KX C w ((W.setCell ⟨r, 0, none⟩ v0).setCell ⟨r, 1, none⟩ v1) :=
  ⟨h.os, h.tape, h.output, by have := h.size; simpa [World.setCell] using this, fun g hg hs => ((Below.heap_setCell _ _ _ _ (by show g ≠ r; omega)).trans (Below.heap_setCell _ _ _ _ (by show g ≠ r; omega))).trans (h.blk g hg hs)⟩
/-- A result's variable, of a hit. -/
def RC (w : World) (r : Nat) : Prop := w.heap[r]? = some (.cells #[.int .i64 0, .slice none 0 0] 37 (0, 0))
theorem RC.facts {w : World} {r : Nat} (h : RC w r) : w.cell? ⟨r, 0, none⟩ = some (.int .i64 0) ∧ w.cell? ⟨r, 1, none⟩ = some (.slice none 0 0) ∧ (∀ k, w.frozen? ⟨r, k, none⟩ = false) ∧ ∀ k (n : Int), w.cell? ⟨r, k, none⟩ ≠ some (.int .u8 n) := by
  unfold RC at h
  refine ⟨by simp [World.cell?, h], by simp [World.cell?, h], fun k => by simp [World.frozen?, h], fun k n => ?_⟩
  simp only [World.cell?, h]
  match k with
  | 0 => simp
  | 1 => simp
  | k + 2 => simp
theorem RC.new (w : World) : RC (w.alloc (.cells #[.int .i64 0, .slice none 0 0] 37)) w.heap.size := heap_alloc_new w _
theorem RC.kx {C : Nat} {w w' : World} {r : Nat} (h : RC w r) (hk : KX C w w') (hC : r ≠ C) : RC w' r := (hk.blk r hC (Array.getElem?_eq_some_iff.1 (show w.heap[r]? = _ from h)).1).trans h
set_option maxHeartbeats 4000000 in
theorem seek_any (G : Nat → Prop) (C : Nat) (st : PS) (w : World) (doc : Int) (h : Cur G w C st) (hG : ∀ b, G b → b < w.heap.size) (F0 : Nat) (hF0 : st.he + st.bh < F0) :
    Calls Try.prog 22 #[.pointer (some ⟨C, 0, none⟩), .int .i64 doc] w fun e w' => ∃ v, e = .returned v ∧ HitV w' w.heap.size (seekP doc F0 st).1 v ∧ Cur G w' C (seekP doc F0 st).2 ∧ KX C w w' := by
  obtain ⟨X, hX⟩ : ∃ X, w.alloc (.cells #[.int .i64 0, .slice none 0 0] 37) = X := ⟨_, rfl⟩
  have bX : Below w.heap.size w X := by rw [← hX]; exact (Below.refl _ _).alloc (Nat.le_refl _) _
  have HCX := Lib.hid (h.below bX)
  have hCw := h.lt
  have HG := Lib.hid hG
  have HRX : Hid (RC X w.heap.size) := by show RC _ _; rw [← hX]; exact RC.new w
  have hrC : w.heap.size ≠ C := by omega
  have HKX : Hid (KX C w X) := KX.of_below bX (Nat.le_refl _)
  clear h bX hG
  go_enter Try.func22, Try.ntmps22
  go_wp2_with fail
  go_loopg [7] (st.he + st.bh) (fun kx s7 wr => ∃ (f : Nat) (s : PS), s.he + s.bh ≤ kx ∧ s.he + s.bh < f ∧ Hid (seekP doc F0 st = seekP doc f s) ∧ Hid (Cur G wr C s) ∧ Hid (RC wr w.heap.size) ∧ Hid (KX C w wr))
  case atStart => exact ⟨F0, st, Nat.le_refl _, hF0, rfl, HCX, HRX, HKX⟩
  case round =>
    obtain ⟨f, s, hkx, hf, HE, HCr, HR, HK⟩ := hrel
    obtain ⟨f', rfl⟩ : ∃ f', f = f' + 1 := ⟨f - 1, by omega⟩
    have c7 := HCr.out.he
    by_cases hh : 0 < s.he
    · have hhI : (0 : Int) < ((s.he : Nat) : Int) := by omega
      have hE2 : Hid (seekP doc F0 st = (lookP s).1.elim (seekP doc f' (lookP s).2) fun x => if doc ≤ (x.1 : Int) then (some x, (lookP s).2) else seekP doc f' (lookP s).2) := by show _ = _; rw [HE.out]; exact seekP_here doc f' s hh
      have hT := lookP_T s hh
      go_wp2_with fail
      (with_reducible refine (look_any G C s _ HCr.out hh).mono ?_)
      rintro e w2 ⟨v, rfl, hv, hc2, k2⟩
      have HC2 := Lib.hid hc2
      have HR2 := Lib.hid ((HR).out.kx k2 hrC)
      have HK2 := Lib.hid ((HK).out.trans k2)
      have hsz : w.heap.size < wr.heap.size := (Array.getElem?_eq_some_iff.1 (show wr.heap[w.heap.size]? = _ from (HR).out)).1
      cases hl : (lookP s).1 with
      | none =>
        have hE3 : Hid (seekP doc F0 st = seekP doc f' (lookP s).2) := by show _ = _; rw [hE2.out, hl]; rfl
        rw [hl] at hv
        have hv' : v = .tuple #[.agg #[.int .i64 0, .slice none 0 0], .bool false] := hv
        subst hv'
        have bA : Below w2.heap.size w2 (w2.alloc (.cells #[.int .i64 0, .slice none 0 0] 37)) := (Below.refl _ _).alloc (Nat.le_refl _) _
        have HC3 := Lib.hid (HC2.out.below bA)
        have hKA : KX C w2 (w2.alloc (.cells #[.int .i64 0, .slice none 0 0] 37)) := KX.of_below bA (Nat.le_refl _)
        have HR3 := Lib.hid (HR2.out.kx hKA hrC)
        have HK3 := Lib.hid (HK2.out.trans hKA)
        clear hv hc2 k2 hl bA hKA
        go_wp2_with fail
        go_roundg ((lookP s).2.he + (lookP s).2.bh)
        case measure => omega
        case rel => exact ⟨f', (lookP s).2, Nat.le_refl _, by omega, hE3, HC3, HR3, HK3⟩
      | some hx =>
        rw [hl] at hv
        obtain ⟨A9, c9, rfl, hn9, hm9, hcs9, hob9⟩ := hv
        obtain ⟨d, ps⟩ := hx
        have HNM := Lib.hid (And.intro hn9 (And.intro hm9 (And.intro hcs9 hob9)))
        obtain ⟨n9, hn9'⟩ : ∃ n9, n9 = ps.length := ⟨_, rfl⟩
        have HN9 := Lib.hid hn9'
        simp only
        rw [← hn9']
        have bA : Below w2.heap.size w2 (w2.alloc (.cells #[.int .i64 d, .slice A9 n9 c9] 37)) := (Below.refl _ _).alloc (Nat.le_refl _) _
        have HBA := Lib.hid bA
        have HC3 := Lib.hid (HC2.out.below bA)
        have hKA : KX C w2 (w2.alloc (.cells #[.int .i64 d, .slice A9 n9 c9] 37)) := KX.of_below bA (Nat.le_refl _)
        have HR3 := Lib.hid (HR2.out.kx hKA hrC)
        have HK3 := Lib.hid (HK2.out.trans hKA)
        by_cases hd : doc ≤ (d : Int)
        · have hE3 : Hid (seekP doc F0 st = (some (d, ps), (lookP s).2)) := by show _ = _; rw [hE2.out, hl]; show (if doc ≤ (d : Int) then _ else _) = _; rw [if_pos hd]
          obtain ⟨r0, r1, r2, r3⟩ := HR3.out.facts
          have g0 := r2 0
          have g1 := r2 1
          obtain ⟨W3, hW3⟩ : ∃ W3, w2.alloc (.cells #[.int .i64 d, .slice A9 n9 c9] 37) = W3 := ⟨_, rfl⟩
          have t0 : W3.cell? ⟨w2.heap.size, 0, none⟩ = some (.int .i64 d) := by rw [← hW3]; simp
          have t1 : W3.cell? ⟨w2.heap.size, 1, none⟩ = some (.slice A9 n9 c9) := by rw [← hW3]; simp
          rw [hW3] at r0 r1 r3 g0 g1
          have FIN : Hid (Cur G ((W3.setCell ⟨w.heap.size, 0, none⟩ (.int .i64 d)).setCell ⟨w.heap.size, 1, none⟩ (.slice A9 n9 c9)) C (lookP s).2 ∧ KX C w ((W3.setCell ⟨w.heap.size, 0, none⟩ (.int .i64 d)).setCell ⟨w.heap.size, 1, none⟩ (.slice A9 n9 c9)) ∧
              ((W3.setCell ⟨w.heap.size, 0, none⟩ (.int .i64 d)).setCell ⟨w.heap.size, 1, none⟩ (.slice A9 n9 c9)).cell? ⟨w.heap.size, 0, none⟩ = some (.int .i64 d) ∧ ((W3.setCell ⟨w.heap.size, 0, none⟩ (.int .i64 d)).setCell ⟨w.heap.size, 1, none⟩ (.slice A9 n9 c9)).cell? ⟨w.heap.size, 1, none⟩ = some (.slice A9 n9 c9) ∧
              CS ((W3.setCell ⟨w.heap.size, 0, none⟩ (.int .i64 d)).setCell ⟨w.heap.size, 1, none⟩ (.slice A9 n9 c9)) ((W3.setCell ⟨w.heap.size, 0, none⟩ (.int .i64 d)).setCell ⟨w.heap.size, 1, none⟩ (.slice A9 n9 c9)).heap.size A9 ((ps.map fun (n : Nat) => (n : Int)).map eI)) := by
            rw [hW3] at bA HC3 HK3
            refine ⟨HC3.out.res w.heap.size _ _ hrC r3, HK3.out.res (Nat.le_refl _) _ _, ?_, ?_, fun hp => ?_⟩
            · rw [so (by decide)]; exact World.cell?_setCell_same _ _ _ (by rw [r0])
            · exact World.cell?_setCell_same _ _ _ (by rw [so (by decide), r1])
            · obtain ⟨b, o, rfl, hb, hcl⟩ := (CS.more (CS.below hcs9 bA) bA.size) hp
              have hge := hob9 _ rfl
              have hge' : wr.heap.size ≤ b := hge
              refine ⟨b, o, rfl, by simpa [World.setCell] using hb, fun k u hu => ?_⟩
              rw [World.cell?_setCell_other _ _ _ _ (by intro e; injection e with e _; omega), World.cell?_setCell_other _ _ _ _ (by intro e; injection e with e _; omega)]
              exact hcl k u hu
          have Q := Lib.hid (And.intro FIN.out.2.2.1 FIN.out.2.2.2.1)
          clear hc2 k2 hl bA hKA r3 hn9 hm9 hcs9 hob9 hn9'
          go_wp2_with fail
          have q0 := Q.out.1
          have q1 := Q.out.2
          refine bodyPost_ret (v := .tuple #[.agg #[.int .i64 d, .slice A9 n9 c9], .bool true]) ?_ rfl ⟨_, rfl, by rw [hE3.out]; exact ⟨A9, c9, by rw [HN9.out], HNM.out.1, HNM.out.2.1, FIN.out.2.2.2.2, fun a e => by have := HNM.out.2.2.2 a e; omega⟩, by rw [hE3.out]; exact FIN.out.1, FIN.out.2.1⟩
          simp [results, Try.results22, go_sem, q0, q1]
        · have hE3 : Hid (seekP doc F0 st = seekP doc f' (lookP s).2) := by show _ = _; rw [hE2.out, hl]; show (if doc ≤ (d : Int) then _ else _) = _; rw [if_neg hd]
          clear hc2 k2 hl bA hKA hn9 hm9 hcs9 hob9 hn9'
          go_wp2_with fail
          go_roundg ((lookP s).2.he + (lookP s).2.bh)
          case measure => omega
          case rel => exact ⟨f', (lookP s).2, Nat.le_refl _, by omega, hE3, HC3, HR3, HK3⟩
    · have hh0 : s.he = 0 := by omega
      have hhI : ¬ (0 : Int) < ((s.he : Nat) : Int) := by omega
      cases hb : (enterP doc s.bh s).1 with
      | false =>
        have HB := Lib.hid hb
        have hE2 : Hid (seekP doc F0 st = (none, (enterP doc s.bh s).2)) := by show _ = _; rw [HE.out]; exact seekP_out doc f' s hh0 hb
        clear hb
        go_wp2_with fail
        (with_reducible refine (enter_any G C s _ doc HCr.out hh0 (fun b hb => by have := HG.out b hb; have := HK.out.size; omega)).mono ?_)
        rw [HB.out]
        rintro e w1 ⟨rfl, hc1, k1⟩
        have HC1 := Lib.hid hc1
        have HR1 := Lib.hid (HR.out.kx k1 hrC)
        have HK1 := Lib.hid (HK.out.trans k1)
        obtain ⟨r0, r1, r2, r3⟩ := HR1.out.facts
        have R2 := r2
        have g0 := r2 0
        have g1 := r2 1
        have FIN := Lib.hid (And.intro (HC1.out.res w.heap.size (.int .i64 0) (.slice none 0 0) hrC r3) (HK1.out.res (Nat.le_refl _) (.int .i64 0) (.slice none 0 0)))
        have q0 : ((w1.setCell ⟨w.heap.size, 0, none⟩ (.int .i64 0)).setCell ⟨w.heap.size, 1, none⟩ (.slice none 0 0)).cell? ⟨w.heap.size, 0, none⟩ = some (.int .i64 0) := by rw [so (by decide)]; exact World.cell?_setCell_same _ _ _ (by rw [r0])
        have q1 : ((w1.setCell ⟨w.heap.size, 0, none⟩ (.int .i64 0)).setCell ⟨w.heap.size, 1, none⟩ (.slice none 0 0)).cell? ⟨w.heap.size, 1, none⟩ = some (.slice none 0 0) := World.cell?_setCell_same _ _ _ (by rw [so (by decide), r1])
        have Q := Lib.hid (And.intro q0 q1)
        clear hc1 k1 r3 R2 q0 q1
        go_wp2_with fail
        have q0 := Q.out.1
        have q1 := Q.out.2
        refine bodyPost_ret (v := .tuple #[.agg #[.int .i64 0, .slice none 0 0], .bool false]) ?_ rfl ⟨_, rfl, by rw [hE2.out]; rfl, by rw [hE2.out]; exact FIN.out.1, FIN.out.2⟩
        simp [results, Try.results22, go_sem, q0, q1]
      | true =>
        have HB := Lib.hid hb
        obtain ⟨t1, t2⟩ := enterP_true doc s.bh s hb
        obtain ⟨s1, hs1⟩ : ∃ s1, s1 = (enterP doc s.bh s).2 := ⟨_, rfl⟩
        have hE2 : Hid (seekP doc F0 st = (lookP s1).1.elim (seekP doc f' (lookP s1).2) fun x => if doc ≤ (x.1 : Int) then (some x, (lookP s1).2) else seekP doc f' (lookP s1).2) := by show _ = _; rw [HE.out, hs1]; exact seekP_in doc f' s hh0 hb
        rw [← hs1] at t1 t2
        have HS1 := Lib.hid hs1
        have hT := lookP_T s1 t1
        clear hb hs1
        go_wp2_with fail
        (with_reducible refine (enter_any G C s _ doc HCr.out hh0 (fun b hb => by have := HG.out b hb; have := HK.out.size; omega)).mono ?_)
        rw [HB.out, ← HS1.out]
        rintro e w1 ⟨rfl, hc1, k1⟩
        have HC1 := Lib.hid hc1
        have HR1 := Lib.hid (HR.out.kx k1 hrC)
        have HK1 := Lib.hid (HK.out.trans k1)
        clear hc1 k1
        go_wp2_with fail
        (with_reducible refine (look_any G C s1 _ HC1.out t1).mono ?_)
        rintro e w2 ⟨v, rfl, hv, hc2, k2⟩
        have HC2 := Lib.hid hc2
        have HR2 := Lib.hid ((HR1).out.kx k2 hrC)
        have HK2 := Lib.hid ((HK1).out.trans k2)
        have hsz : w.heap.size < w1.heap.size := (Array.getElem?_eq_some_iff.1 (show w1.heap[w.heap.size]? = _ from (HR1).out)).1
        cases hl : (lookP s1).1 with
        | none =>
          have hE3 : Hid (seekP doc F0 st = seekP doc f' (lookP s1).2) := by show _ = _; rw [hE2.out, hl]; rfl
          rw [hl] at hv
          have hv' : v = .tuple #[.agg #[.int .i64 0, .slice none 0 0], .bool false] := hv
          subst hv'
          have bA : Below w2.heap.size w2 (w2.alloc (.cells #[.int .i64 0, .slice none 0 0] 37)) := (Below.refl _ _).alloc (Nat.le_refl _) _
          have HC3 := Lib.hid (HC2.out.below bA)
          have hKA : KX C w2 (w2.alloc (.cells #[.int .i64 0, .slice none 0 0] 37)) := KX.of_below bA (Nat.le_refl _)
          have HR3 := Lib.hid (HR2.out.kx hKA hrC)
          have HK3 := Lib.hid (HK2.out.trans hKA)
          clear hv hc2 k2 hl bA hKA
          go_wp2_with fail
          go_roundg ((lookP s1).2.he + (lookP s1).2.bh)
          case measure => omega
          case rel => exact ⟨f', (lookP s1).2, Nat.le_refl _, by omega, hE3, HC3, HR3, HK3⟩
        | some hx =>
          rw [hl] at hv
          obtain ⟨A9, c9, rfl, hn9, hm9, hcs9, hob9⟩ := hv
          obtain ⟨d, ps⟩ := hx
          have HNM := Lib.hid (And.intro hn9 (And.intro hm9 (And.intro hcs9 hob9)))
          obtain ⟨n9, hn9'⟩ : ∃ n9, n9 = ps.length := ⟨_, rfl⟩
          have HN9 := Lib.hid hn9'
          simp only
          rw [← hn9']
          have bA : Below w2.heap.size w2 (w2.alloc (.cells #[.int .i64 d, .slice A9 n9 c9] 37)) := (Below.refl _ _).alloc (Nat.le_refl _) _
          have HBA := Lib.hid bA
          have HC3 := Lib.hid (HC2.out.below bA)
          have hKA : KX C w2 (w2.alloc (.cells #[.int .i64 d, .slice A9 n9 c9] 37)) := KX.of_below bA (Nat.le_refl _)
          have HR3 := Lib.hid (HR2.out.kx hKA hrC)
          have HK3 := Lib.hid (HK2.out.trans hKA)
          by_cases hd : doc ≤ (d : Int)
          · have hE3 : Hid (seekP doc F0 st = (some (d, ps), (lookP s1).2)) := by show _ = _; rw [hE2.out, hl]; show (if doc ≤ (d : Int) then _ else _) = _; rw [if_pos hd]
            obtain ⟨r0, r1, r2, r3⟩ := HR3.out.facts
            have g0 := r2 0
            have g1 := r2 1
            obtain ⟨W3, hW3⟩ : ∃ W3, w2.alloc (.cells #[.int .i64 d, .slice A9 n9 c9] 37) = W3 := ⟨_, rfl⟩
            have t0 : W3.cell? ⟨w2.heap.size, 0, none⟩ = some (.int .i64 d) := by rw [← hW3]; simp
            have t1 : W3.cell? ⟨w2.heap.size, 1, none⟩ = some (.slice A9 n9 c9) := by rw [← hW3]; simp
            rw [hW3] at r0 r1 r3 g0 g1
            have FIN : Hid (Cur G ((W3.setCell ⟨w.heap.size, 0, none⟩ (.int .i64 d)).setCell ⟨w.heap.size, 1, none⟩ (.slice A9 n9 c9)) C (lookP s1).2 ∧ KX C w ((W3.setCell ⟨w.heap.size, 0, none⟩ (.int .i64 d)).setCell ⟨w.heap.size, 1, none⟩ (.slice A9 n9 c9)) ∧
                ((W3.setCell ⟨w.heap.size, 0, none⟩ (.int .i64 d)).setCell ⟨w.heap.size, 1, none⟩ (.slice A9 n9 c9)).cell? ⟨w.heap.size, 0, none⟩ = some (.int .i64 d) ∧ ((W3.setCell ⟨w.heap.size, 0, none⟩ (.int .i64 d)).setCell ⟨w.heap.size, 1, none⟩ (.slice A9 n9 c9)).cell? ⟨w.heap.size, 1, none⟩ = some (.slice A9 n9 c9) ∧
                CS ((W3.setCell ⟨w.heap.size, 0, none⟩ (.int .i64 d)).setCell ⟨w.heap.size, 1, none⟩ (.slice A9 n9 c9)) ((W3.setCell ⟨w.heap.size, 0, none⟩ (.int .i64 d)).setCell ⟨w.heap.size, 1, none⟩ (.slice A9 n9 c9)).heap.size A9 ((ps.map fun (n : Nat) => (n : Int)).map eI)) := by
              rw [hW3] at bA HC3 HK3
              refine ⟨HC3.out.res w.heap.size _ _ hrC r3, HK3.out.res (Nat.le_refl _) _ _, ?_, ?_, fun hp => ?_⟩
              · rw [so (by decide)]; exact World.cell?_setCell_same _ _ _ (by rw [r0])
              · exact World.cell?_setCell_same _ _ _ (by rw [so (by decide), r1])
              · obtain ⟨b, o, rfl, hb, hcl⟩ := (CS.more (CS.below hcs9 bA) bA.size) hp
                have hge := hob9 _ rfl
                have hge' : w1.heap.size ≤ b := hge
                refine ⟨b, o, rfl, by simpa [World.setCell] using hb, fun k u hu => ?_⟩
                rw [World.cell?_setCell_other _ _ _ _ (by intro e; injection e with e _; omega), World.cell?_setCell_other _ _ _ _ (by intro e; injection e with e _; omega)]
                exact hcl k u hu
            have Q := Lib.hid (And.intro FIN.out.2.2.1 FIN.out.2.2.2.1)
            clear hc2 k2 hl bA hKA r3 hn9 hm9 hcs9 hob9 hn9'
            go_wp2_with fail
            have q0 := Q.out.1
            have q1 := Q.out.2
            refine bodyPost_ret (v := .tuple #[.agg #[.int .i64 d, .slice A9 n9 c9], .bool true]) ?_ rfl ⟨_, rfl, by rw [hE3.out]; exact ⟨A9, c9, by rw [HN9.out], HNM.out.1, HNM.out.2.1, FIN.out.2.2.2.2, fun a e => by have := HNM.out.2.2.2 a e; omega⟩, by rw [hE3.out]; exact FIN.out.1, FIN.out.2.1⟩
            simp [results, Try.results22, go_sem, q0, q1]
          · have hE3 : Hid (seekP doc F0 st = seekP doc f' (lookP s1).2) := by show _ = _; rw [hE2.out, hl]; show (if doc ≤ (d : Int) then _ else _) = _; rw [if_neg hd]
            clear hc2 k2 hl bA hKA hn9 hm9 hcs9 hob9 hn9'
            go_wp2_with fail
            go_roundg ((lookP s1).2.he + (lookP s1).2.bh)
            case measure => omega
            case rel => exact ⟨f', (lookP s1).2, Nat.le_refl _, by omega, hE3, HC3, HR3, HK3⟩
end Go.Proofs.Ytjigaoclngfcaaa
