/- post.Decode. -/
import Derived.Test.YtjigaoclngfcaaaPoHr
import Derived.Test.YtjigaoclngfcaaaPoHd
import Derived.Test.YtjigaoclngfcaaaShelf
namespace Go.Proofs.Ytjigaoclngfcaaa
open Go.RowKit
set_option maxRecDepth 100000

def runA (l : List UInt8) : List HN := runP ((openP l).he + (openP l).bh + 1) (openP l)
def decH (l : List UInt8) : List HI := (runA l).map toHI
theorem openP_M (l : List UInt8) (M : Nat) (h : l.length ≤ M) : okM M (openP l) := by
  unfold openP
  cases hN : rdN l 1000 with
  | none => exact ⟨(fun l h => by cases h), fun k => absurd k (Nat.lt_irrefl _)⟩
  | some p =>
    have := rdN_len (n := p.1) (r := p.2) hN
    exact ⟨fun l' h' => by have e := Option.some.inj h'; rw [← e]; omega, fun k => absurd k (Nat.lt_irrefl _)⟩
theorem openP_T (l : List UInt8) : (openP l).he = 0 ∧ (openP l).bh ≤ 1000 := by
  unfold openP
  cases hN : rdN l 1000 with
  | none => exact ⟨rfl, by decide⟩
  | some p => exact ⟨rfl, (rdN_some (n := p.1) (r := p.2) hN).2.1⟩
theorem decH_len (l : List UInt8) : (decH l).length ≤ 1000 := by
  have h := runP_len ((openP l).he + (openP l).bh + 1) (openP l)
  have := openP_T l
  unfold decH runA
  rw [List.length_map]
  omega
theorem decH_M (l : List UInt8) (hl : l.length ≤ 6000) : ∀ h ∈ decH l, h.2.length ≤ 6000 := fun h hh => by
  obtain ⟨x, hx, rfl⟩ := List.mem_map.1 hh
  have := runP_M 6000 _ _ (openP_M l 6000 hl) x hx
  show ((x.2.map fun (n : Nat) => (n : Int))).length ≤ 6000
  rw [List.length_map]
  exact this
theorem eq_chars (a b : List UInt8) : ((⟨a.toArray⟩ : ByteArray).toList == (⟨b.toArray⟩ : ByteArray).toList) = decide (a = b) := by
  rw [ByteArray.toList_eq, ByteArray.toList_eq]
  by_cases h : a = b
  · subst h; simp
  · rw [decide_eq_false h]; exact beq_eq_false_iff_ne.2 h
/-- Whether bytes are just hits'. -/
def isH (l : List UInt8) : Bool := rgt (-1) (decH l) && decide (eP (decH l) = l)
def DecQ (w : World) (l : List UInt8) (e : Ending) (w' : World) : Prop := (isH l = true → ∃ A c, e = .returned (.tuple #[.slice A (decH l).length c, .int .i64 0]) ∧ (decH l).length ≤ c ∧ c ≤ maxLen ∧ HS w' w'.heap.size A (decH l)) ∧ (isH l = false → e = .returned (.tuple #[.slice none 0 0, .int .i64 2])) ∧ Below w.heap.size w w'
theorem grown_var {w0 wr : World} {C H : Nat} {v : Value} {hs : List HN} {zs : List (Value × Value)} {o : Option HN} {s : PS} (h : DL w0 wr C H v hs zs o s) {x y : Value} (c0 : wr.cell? ⟨H, 0, none⟩ = some x) (c1 : wr.cell? ⟨H, 1, none⟩ = some y) {ob : Obj} {w4 : World} (hg : (wr.alloc ob).grownBy w4 v.ownBlock) : w4.cell? ⟨H, 0, none⟩ = some x ∧ w4.cell? ⟨H, 1, none⟩ = some y := by
  have hl : H < wr.heap.size := World.block_lt_of_cell? wr _ c0
  have b1 : Below wr.heap.size wr (wr.alloc ob) := (Below.refl _ _).alloc (Nat.le_refl _) _
  have hb : w4.heap[H]? = wr.heap[H]? := (hg.block H (Nat.lt_of_lt_of_le hl b1.size) (fun e => h.nH e.symm)).trans (b1.block H hl)
  exact ⟨(cellH hb).trans c0, (cellH hb).trans c1⟩
set_option maxHeartbeats 4000000 in
theorem decode_any (A : Option Addr) (n c : Nat) (l : List UInt8) (HL : Hid (n = l.length)) (hl : l.length ≤ 6000) (w : World) (hb : BS w w.heap.size A l) :
    Calls Try.prog 19 #[.slice A n c] w (DecQ w l) := by
  have HB := Lib.hid hb
  have KO := Lib.hid (open_any (fun _ => False) A n c l HL (by omega) w (fun _ h => h.elim) hb)
  clear hb
  go_enter Try.func19, Try.ntmps19
  go_wp2_with fail
  (with_reducible refine KO.out.mono ?_)
  rintro e w1 ⟨C, rfl, hc1, b1, hC1, hC2⟩
  obtain ⟨s0, hs0⟩ : ∃ s0, s0 = openP l := ⟨_, rfl⟩
  rw [← hs0] at hc1
  have KN := Lib.hid (next_any (fun _ => False) C s0 w1 hc1 (fun _ h => h.elim) (s0.he + s0.bh + 1) (by omega))
  have HS0 := Lib.hid hs0
  have HB1 := Lib.hid b1
  clear hc1 b1 KO hs0
  go_wp2_with fail
  (with_reducible refine KN.out.mono ?_)
  rintro e w2 ⟨v2, rfl, hv2, hc2, k2⟩
  obtain ⟨o, ho⟩ : ∃ o, o = (nextP s0).1 := ⟨_, rfl⟩
  obtain ⟨s1, hs1⟩ : ∃ s1, s1 = (nextP s0).2 := ⟨_, rfl⟩
  have ho' : (seekP 0 (s0.he + s0.bh + 1) s0).1 = o := ho.symm
  have hs1' : (seekP 0 (s0.he + s0.bh + 1) s0).2 = s1 := hs1.symm
  rw [ho'] at hv2
  rw [hs1'] at hc2
  obtain ⟨dd, A1, n1, c1, rfl, hf⟩ := hv2.form
  have bA : Below w2.heap.size w2 (w2.alloc (.cells #[.int .i64 dd, .slice A1 n1 c1] 37)) := (Below.refl _ _).alloc (Nat.le_refl _) _
  have b02 : Below w.heap.size w w2 := HB1.out.trans (k2.below hC1 HB1.out.size)
  have HDL : Hid (DL w (w2.alloc (.cells #[.int .i64 dd, .slice A1 n1 c1] 37)) C w2.heap.size (.slice none 0 0) [] [] o s1) := by
    refine ⟨(hc2.below bA).more (fun b hb => by cases hb), b02.trans (bA.mono b02.size), World.ownsRow_nil _ _ _ _, rfl, fun k h => absurd h (Nat.not_lt_zero _), ⟨dd, A1, n1, c1, by simp, by simp, fun x hx => ?_⟩, ⟨by simp, by simp⟩, (fun e => by cases e), (fun e => by cases e), hC1⟩
    obtain ⟨p1, p2⟩ := hf x hx
    exact ⟨p1, p2.sli none C hC2 (fun g hg => by cases hg) bA.size fun b hb _ => bA.block b hb⟩
  have HRN : Hid (runA l = [] ++ o.elim [] fun h => h :: runP (s0.he + s0.bh) s1) := by
    show _ = _
    unfold runA
    rw [← HS0.out, ho, hs1, List.nil_append]
    rfl
  have hT1 : ∀ h, o = some h → s1.he + s1.bh < s0.he + s0.bh := fun h e => by rw [hs1]; exact seekP_T 0 _ s0 h (by rw [ho', e])
  have HT1 := Lib.hid hT1
  obtain ⟨M0, hM0⟩ : ∃ M0, M0 = s0.he + s0.bh := ⟨_, rfl⟩
  rw [← hM0] at HRN HT1
  clear hv2 hc2 k2 hf bA b02 KN ho hs1 ho' hs1' hT1 hM0
  go_wp2_with fail
  go_loopg [4, 6, 7] (M0 + 1) (fun kx s4 s6 s7 wr => ∃ (H : Nat) (v : Value) (hs : List HN) (zs : List (Value × Value)) (o : Option HN) (s : PS) (f : Nat), v = s4 ∧ s6 = .pointer (some ⟨H, 0, none⟩) ∧ s7 = .bool o.isSome ∧ Hid (∀ h, o = some h → s.he + s.bh + 1 ≤ kx ∧ s.he + s.bh ≤ f) ∧ Hid (runA l = hs ++ o.elim [] fun h => h :: runP f s) ∧ Hid (DL w wr C H v hs zs o s))
  case atStart => exact ⟨_, _, [], [], o, s1, M0, rfl, rfl, rfl, fun h e => by have := HT1.out h e; omega, HRN, HDL⟩
  case round =>
    obtain ⟨H, v, hs, zs, o, s, f, rfl, rfl, rfl, HM, HR, HD⟩ := hrel
    cases o with
    | none =>
      have hrun : runA l = hs := by rw [HR.out]; simp
      obtain ⟨A9, c9, rfl, hm1, hm2, hHS⟩ := HD.out.hs
      have hde : hs.map toHI = decH l := by unfold decH; rw [hrun]
      have hlz : zs.length = (decH l).length := by rw [HD.out.len, ← hde, List.length_map]
      rw [hde] at hHS
      have hdl := decH_len l
      obtain ⟨m, hm⟩ : ∃ m, m = zs.length := ⟨_, rfl⟩
      rw [← hm] at hlz hm1 ⊢
      have HLZ := Lib.hid hlz
      have hm1000 : m ≤ 1000 := by omega
      have HMS := Lib.hid (And.intro hm1 hm2)
      have HHS := Lib.hid hHS
      have HKB := Lib.hid HD.out.kb
      unfold maxLen at hm2
      clear hrun hde hlz hHS hm hdl
      cases hr : rgt (-1) (decH l) with
      | false =>
        have KE := Lib.hid (enc_bad A9 m c9 (decH l) HLZ (by omega) wr HHS.out hr)
        have hF : Hid (isH l = false) := by show _ = _; unfold isH; rw [hr]; rfl
        clear hr
        go_wp2_with fail
        (with_reducible refine KE.out.mono ?_)
        rintro e w3 ⟨rfl, b3⟩
        go_wp2_with fail
        go_ret2
        exact ⟨fun h => (by rw [hF.out] at h; cases h), fun _ => rfl, HKB.out.trans (b3.mono HKB.out.size)⟩
      | true =>
        have KE := Lib.hid (enc_ok A9 m c9 (decH l) ⟨HLZ.out, decH_M l hl⟩ (by omega) HMS.out.1 wr HHS.out hr)
        have HR1 := Lib.hid hr
        clear hr
        go_wp2_with fail
        (with_reducible refine KE.out.mono ?_)
        rintro e w3 ⟨v7, rfl, o7, b3⟩
        obtain ⟨A7, c7, rfl, _, _, hbs7, _⟩ := o7.form
        obtain ⟨m7, hm7⟩ : ∃ m7, m7 = (eP (decH l)).length := ⟨_, rfl⟩
        rw [← hm7]
        have hB3 := HKB.out.trans (b3.mono HKB.out.size)
        have KQ := Lib.hid (Try.bytes_Equal_strs (.slice A7 m7 c7) (.slice A n c) ⟨(eP (decH l)).toArray⟩ ⟨l.toArray⟩ w3 (hbs7.conv _ _ hm7) ((HB.out.below hB3).conv _ _ HL.out))
        rw [eq_chars] at KQ
        have HB3 := Lib.hid hB3
        have HHS3 := Lib.hid (HHS.out.up b3)
        clear o7 b3 hbs7 hm7 hB3 KE
        cases hq : decide (eP (decH l) = l) with
        | true =>
          rw [hq] at KQ
          have hF : Hid (isH l = true) := by show _ = _; unfold isH; rw [HR1.out, hq]; rfl
          clear hq
          go_wp2_with fail
          (with_reducible refine KQ.out.mono ?_)
          rintro e w4 ⟨rfl, rfl⟩
          go_wp2_with fail
          go_ret2
          exact ⟨fun _ => ⟨A9, c9, by rw [← HLZ.out]; rfl, by rw [← HLZ.out]; exact HMS.out.1, HMS.out.2, HHS3.out⟩, fun h => (by rw [hF.out] at h; cases h), HB3.out⟩
        | false =>
          rw [hq] at KQ
          have hF : Hid (isH l = false) := by show _ = _; unfold isH; rw [HR1.out, hq]; rfl
          clear hq
          go_wp2_with fail
          (with_reducible refine KQ.out.mono ?_)
          rintro e w4 ⟨rfl, rfl⟩
          go_wp2_with fail
          go_ret2
          exact ⟨fun h => (by rw [hF.out] at h; cases h), fun _ => rfl, HB3.out⟩
    | some hx =>
      obtain ⟨hM1, hM2⟩ := HM.out hx rfl
      obtain ⟨dd, A9, n9, c9, q0, q1, hvx⟩ := HD.out.var
      clear hvx
      have hzl := HD.out.len
      have hz1000 : zs.length + 1 ≤ 100000 := by
        have h1 := runP_len ((openP l).he + (openP l).bh + 1) (openP l)
        have h2 := openP_T l
        have h3 : (runA l).length = hs.length + (1 + (runP f s).length) := by rw [HR.out]; simp; omega
        unfold runA at h3
        omega
      obtain ⟨m, hm⟩ : ∃ m, m = zs.length := ⟨_, rfl⟩
      have HMZ := Lib.hid hm
      rw [← hm] at hz1000
      have HOW : Hid (wr.ownsRow w.heap.size 37 2 v m (cellsZ zs)) := by rw [hm]; exact HD.out.own
      have bB : Below wr.heap.size wr (wr.alloc (.cells #[.int .i64 dd, .slice A9 n9 c9] 37)) := (Below.refl _ _).alloc (Nat.le_refl _) _
      have HOB := Lib.hid (own_below HOW.out bB)
      have hsB : w.heap.size ≤ (wr.alloc (.cells #[.int .i64 dd, .slice A9 n9 c9] 37)).heap.size := by have := HD.out.kb.size; simp; omega
      have t0 : (wr.alloc (.cells #[.int .i64 dd, .slice A9 n9 c9] 37)).cell? ⟨wr.heap.size, 0, none⟩ = some (.int .i64 dd) := by simp
      have t1 : (wr.alloc (.cells #[.int .i64 dd, .slice A9 n9 c9] 37)).cell? ⟨wr.heap.size, 1, none⟩ = some (.slice A9 n9 c9) := by simp
      have HT01 := Lib.hid (And.intro t0 t1)
      have HQ01 := Lib.hid (And.intro q0 q1)
      clear hzl hm bB t0 t1
      go_wp2_with (first
        | (at_builtin; refine wpList_appendH _ rfl (.tmp 23) (.tmp 25) rfl w.heap.size v zs m HMZ.out.symm rfl HOB.out wr.heap.size 1 (.int .i64 dd, .slice A9 n9 c9) rfl HT01.out.1 HT01.out.2 rfl rfl hz1000 hsB ?_; intro v4 w4 hown4 hg4 hv4; rw [HMZ.out] at hown4; have HD4 := Lib.hid (HD.out.app HQ01.out.1 HQ01.out.2 _ hown4 hg4 hv4); have zz := grown_var HD.out HQ01.out.1 HQ01.out.2 hg4; have z0 := zz.1; have z1 := zz.2))
      obtain ⟨X, hX⟩ : ∃ X, w4.alloc (.cells #[.int .i64 dd, .slice A9 n9 c9] 37) = X := ⟨_, rfl⟩
      have HX0 := Lib.hid hX
      have bX : Below w4.heap.size w4 X := by rw [← hX]; exact (Below.refl _ _).alloc (Nat.le_refl _) _
      have sX : X.heap.size = w4.heap.size + 1 := by rw [← hX]; simp
      have x0 : X.cell? ⟨w4.heap.size, 0, none⟩ = some (.int .i64 dd) := by rw [← hX]; simp
      have x1 : X.cell? ⟨w4.heap.size, 1, none⟩ = some (.slice A9 n9 c9) := by rw [← hX]; simp
      have xf : X.frozen? ⟨w4.heap.size, 0, none⟩ = false ∧ X.frozen? ⟨w4.heap.size, 1, none⟩ = false := by rw [← hX]; exact ⟨by simp, by simp⟩
      have hob4 : ∀ g, v4.ownBlock = some g → g < w4.heap.size := by
        obtain ⟨_, _, _, _, _, _, hb⟩ := own_form HD4.out.own
        exact fun g hg => (hb g hg).2
      have hcX : Cur (fun b => v4.ownBlock = some b ∨ b = w4.heap.size) X C s := (HD4.out.cur.more fun b hb => by
        rcases hb with hb | hb
        · exact .inl hb
        · exact .inr (by omega)).below bX
      have KN := Lib.hid (next_any (fun b => v4.ownBlock = some b ∨ b = w4.heap.size) C s X hcX (fun b hb => by
        rcases hb with hb | hb
        · have := hob4 b hb; omega
        · omega) (s.he + s.bh + 1) (by omega))
      obtain ⟨o', ho⟩ : ∃ o', o' = (nextP s).1 := ⟨_, rfl⟩
      obtain ⟨s', hs'⟩ : ∃ s', s' = (nextP s).2 := ⟨_, rfl⟩
      have ho' : (seekP 0 (s.he + s.bh + 1) s).1 = o' := ho.symm
      have hs1' : (seekP 0 (s.he + s.bh + 1) s).2 = s' := hs'.symm
      rw [ho', hs1'] at KN
      have hT1 : ∀ h, o' = some h → s'.he + s'.bh < s.he + s.bh := fun h e => by rw [hs']; exact seekP_T 0 _ s h (by rw [ho', e])
      have HRN : Hid (∃ f', (∀ h, o' = some h → s'.he + s'.bh ≤ f') ∧ runA l = (hs ++ [hx]) ++ o'.elim [] fun h => h :: runP f' s') := by
        have e1 := HR.out
        simp only [Option.elim_some] at e1
        cases hoo : o' with
        | none =>
          refine ⟨0, (fun h e => by cases e), ?_⟩
          rw [e1, runP_none f s (by rw [← ho, hoo])]
          simp
        | some h' =>
          have ht := hT1 h' hoo
          obtain ⟨f', rfl⟩ : ∃ f', f = f' + 1 := ⟨f - 1, by omega⟩
          refine ⟨f', fun _ _ => by omega, ?_⟩
          rw [e1, runP_some f' s h' (by rw [← ho, hoo]), ← hs']
          simp
      have HT1 := Lib.hid hT1
      have HX := Lib.hid (And.intro bX (And.intro sX (And.intro x0 (And.intro x1 xf))))
      clear hX bX sX xf hcX ho hs' ho' hs1' hT1 hob4 hown4 hg4 hv4
      go_wp2_with fail
      rw [HX0.out]
      (with_reducible refine KN.out.mono ?_)
      rintro e w5 ⟨v5, rfl, hv5, hc5, k5⟩
      obtain ⟨dd', A', n', c', rfl, hf⟩ := hv5.form
      obtain ⟨bX, sX, x0', x1', xf⟩ := HX.out
      have hCw := HD4.out.cur.lt
      have hr5 : w5.heap[w4.heap.size]? = X.heap[w4.heap.size]? := k5.blk _ (by omega) (by omega)
      have y0 := (cellH (o := 0) hr5).trans x0'
      have y1 := (cellH (o := 1) hr5).trans x1'
      have g0 := (frozH (o := 0) hr5).trans xf.1
      have g1 := (frozH (o := 1) hr5).trans xf.2
      have HDN := Lib.hid (HD4.out.nx X bX k5 hc5 hr5 _ _ x0' x1' xf dd' A' n' c' hf)
      clear hv5 hc5 k5 hf hr5 bX sX x0' x1' xf
      go_wp2_with fail
      obtain ⟨f', hf1, hf2⟩ := HRN.out
      go_roundg (o'.elim 0 fun _ => s'.he + s'.bh + 1)
      case measure =>
        have h9 := HT1.out
        clear hf2 HRN HDN KN HT1
        cases o' with
        | none => show 0 < _; omega
        | some h' => have := h9 h' rfl; show s'.he + s'.bh + 1 < _; omega
      case rel => exact ⟨_, _, hs ++ [hx], _, o', s', f', rfl, rfl, rfl, fun h e => ⟨by rw [e]; exact Nat.le_refl _, hf1 h e⟩, hf2, HDN⟩
end Go.Proofs.Ytjigaoclngfcaaa
