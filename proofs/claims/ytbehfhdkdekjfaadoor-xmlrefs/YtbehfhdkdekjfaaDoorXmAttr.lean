/- The reader's attr. -/
import Derived.Test.YtbehfhdkdekjfaaDoorXmVal
namespace Go.Proofs.YtbehfhdkdekjfaaDoor
open Go.RowKit
set_option maxRecDepth 100000

/-- A block of two cells. -/
structure Bx (w : World) (B : Nat) (a b : Value) : Prop where
  c0 : w.cell? ⟨B, 0, none⟩ = some a
  c1 : w.cell? ⟨B, 1, none⟩ = some b
  fr : ∀ o, w.frozen? ⟨B, o, none⟩ = false
theorem Bx.new (w : World) (a b : Value) (T : TypeId) : Bx (w.alloc (.cells #[a, b] T)) w.heap.size a b := by
  refine ⟨box2.1, box2.2, fun o => ?_⟩
  simp only [World.frozen?, heap_alloc_new]; simp
theorem Bx.mv {w w' : World} {R B : Nat} {a b : Value} (h : Bx w B a b) (m : Mv w w' R) (hne : B ≠ R) (hlt : B < w.heap.size) : Bx w' B a b :=
  ⟨mv_cell m hne hlt h.c0, mv_cell m hne hlt h.c1, fun o => (World.frozen?_of_block (w := w) (a := ⟨B, o, none⟩) (m.block B hlt hne)).trans (h.fr o)⟩
theorem Mv.setFar {w wr : World} {R : Nat} (m : Mv w wr R) (hR : R < w.heap.size) {p : Addr} (hp : w.heap.size ≤ p.block) (u : Value) : Mv w (wr.setCell p u) R := by
  have hk : ∀ g, g < w.heap.size → (wr.setCell p u).heap[g]? = wr.heap[g]? := fun g hlt => Below.heap_setCell _ _ _ _ (by omega)
  refine ⟨m.os, m.tape, m.output, by simpa [World.setCell] using m.size, fun g hlt hne => (hk g hlt).trans (m.block g hlt hne), fun o ho => ?_, fun o => ?_⟩
  · exact (World.cell?_of_block (w := wr) (a := ⟨R, o, none⟩) (hk R hR)).trans (m.cell o ho)
  · exact (World.frozen?_of_block (w := wr) (a := ⟨R, o, none⟩) (hk R hR)).trans (m.frz o)
theorem Rst.setFar {w : World} {R : Nat} {l : L8} (h : Rst w R l) {p : Addr} (hp : p.block ≠ R) (u : Value) : Rst (w.setCell p u) R l := by
  have hk := Below.heap_setCell w p u R (fun e => hp e.symm)
  exact ⟨by simpa [World.setCell] using h.lt, h.ge, (World.cell?_of_block (w := w) (a := ⟨R, 0, none⟩) hk).trans h.cell, (World.frozen?_of_block (w := w) (a := ⟨R, 0, none⟩) hk).trans h.frz⟩
theorem set2 {w wr : World} {R : Nat} {l : L8} (m : Mv w wr R) (h : Rst wr R l) (hR : R < w.heap.size) (B : Nat) (hB : w.heap.size ≤ B) (a b : Value) :
    Mv w ((wr.setCell ⟨B, 0, none⟩ a).setCell ⟨B, 1, none⟩ b) R ∧ Rst ((wr.setCell ⟨B, 0, none⟩ a).setCell ⟨B, 1, none⟩ b) R l :=
  ⟨(m.setFar hR (p := ⟨B, 0, none⟩) hB a).setFar hR (p := ⟨B, 1, none⟩) hB b, (h.setFar (p := ⟨B, 0, none⟩) (by simp; omega) a).setFar (p := ⟨B, 1, none⟩) (by simp; omega) b⟩
def atV (a : At) : Value := .agg #[.string (strOf a.1), .string (strOf a.2)]
def AttrPost (R len : Nat) (o : Option (At × L8)) (w : World) (e : Ending) (w' : World) : Prop :=
  Mv w w' R ∧ ((∃ a r, o = some (a, r) ∧ e = .returned (.tuple #[atV a, .int .i64 0]) ∧ Rst w' R r ∧ V8 r ∧ r.length < len) ∨ (o = none ∧ ∃ a, e = .returned (.tuple #[atV a, .int .i64 11]) ∧ ∃ l', Rst w' R l'))
def quoteL (nm s : L8) : Option (At × L8) := match s with
  | [] => none
  | c :: t => if c = 34 ∨ c = 39 then (valL c (t.length + 1) t []).map fun x => ((nm, x.1), x.2) else none
theorem attr_eq (l : L8) : attrL l = if (nameL l).1 = [] then none else match tk [61] (skipB (nameL l).2) with
    | none => none
    | some r => quoteL (nameL l).1 (skipB r) := rfl
theorem quote1 (nm s r : L8) (q : UInt8) (hq : q = 34 ∨ q = 39) (h : tk [q] s = some r) : quoteL nm s = (valL q (r.length + 1) r []).map fun x => ((nm, x.1), x.2) := by
  have := tk_app h
  subst this
  show (if q = 34 ∨ q = 39 then _ else _) = _
  rw [if_pos hq]
  rfl
theorem quote0 (nm s : L8) (h1 : tk [34] s = none) (h2 : tk [39] s = none) : quoteL nm s = none := by
  cases s with
  | nil => rfl
  | cons c t =>
    rw [tk1] at h1 h2
    have e1 : c ≠ 34 := fun e => by rw [if_pos e] at h1; cases h1
    have e2 : c ≠ 39 := fun e => by rw [if_pos e] at h2; cases h2
    exact if_neg (by rintro (e | e); exact e1 e; exact e2 e)
set_option maxHeartbeats 4000000 in
theorem attr_any (R : Nat) (l : L8) (hl : l.length ≤ 1000000) (hv : V8 l) (w : World) (h : Rst w R l) (hE : Env w) :
    Calls Tryd.prog 78 #[.pointer (some ⟨R, 0, none⟩)] w (AttrPost R l.length (attrL l) w) := by
  have H := Lib.hid h
  have HI := Lib.hid (attr_eq l)
  have hb0 : Below w.heap.size w (w.alloc (.cells #[.string ⟨#[]⟩, .string ⟨#[]⟩] 41)) := (Below.refl _ _).alloc (Nat.le_refl _) _
  have hx0 := Bx.new w (.string ⟨#[]⟩) (.string ⟨#[]⟩) 41
  have HE0 := Lib.hid (hE.below hE.2.2.2.2 hb0)
  have HR0 := Lib.hid (h.below hb0)
  have HM0 := Lib.hid (Mv.of h.lt hb0)
  have hs0 : w.heap.size < (w.alloc (.cells #[.string ⟨#[]⟩, .string ⟨#[]⟩] 41)).heap.size := by simp
  have HN := Lib.hid (name_any R l hl hv _ HR0.out HE0.out)
  have hvn := v_name hv
  have hln := name_len l
  have hne : w.heap.size ≠ R := by have := h.lt; omega
  have HX0 := Lib.hid hx0
  clear h hE hb0 hv hx0
  generalize nameL l = x at *
  obtain ⟨n, t⟩ := x
  simp only at HN HI hvn hln
  have hlt : t.length ≤ 1000000 := by omega
  go_enter Tryd.func78, Tryd.ntmps78
  go_wp2_with fail
  generalize w.alloc (.cells #[.string ⟨#[]⟩, .string ⟨#[]⟩] 41) = w0 at *
  refine HN.out.mono ?_
  rintro e w1 ⟨rfl, m1, r1⟩
  have HX1 := Lib.hid (HX0.out.mv m1 hne hs0)
  have HM1 := Lib.hid (HM0.out.trans m1)
  have HE1 := Lib.hid (HE0.out.mv H.out.ge m1)
  have hs1 := Nat.lt_of_lt_of_le hs0 m1.size
  clear HX0 HM0 HE0 HR0 HN m1 hs0
  go_wp2_with fail
  refine (blanks_any R t hlt w1 r1).mono ?_
  rintro e w2 ⟨rfl, m2, r2⟩
  have HX2 := Lib.hid (HX1.out.mv m2 hne hs1)
  have HM2 := Lib.hid (HM1.out.trans m2)
  have HE2 := Lib.hid (HE1.out.mv H.out.ge m2)
  have hs2 := Nat.lt_of_lt_of_le hs1 m2.size
  clear HX1 HM1 HE1 r1 m2 hs1
  have hsk := skip_len t
  have hvs := v_skip hvn.2
  generalize skipB t = s at *
  by_cases hn : n = []
  · rw [if_pos hn] at HI
    have hem : (strOf n).toList.isEmpty = true := by rw [str_empty, hn]; rfl
    obtain ⟨c0, c1, fr⟩ := HX2.out
    have fr0 := fr 0
    have fr1 := fr 1
    clear hn fr
    go_wp2_with fail
    exact bodyPost_ret (v := .tuple #[atV ([], []), .int .i64 11]) (by simp [results, Tryd.results78, go_sem, c0, c1, atV]; rfl) rfl ⟨(set2 HM2.out r2 H.out.lt _ (Nat.le_refl _) _ _).1, .inr ⟨HI.out, _, rfl, _, (set2 HM2.out r2 H.out.lt _ (Nat.le_refl _) _ _).2⟩⟩
  rw [if_neg hn] at HI
  have hem : (strOf n).toList.isEmpty = false := by rw [str_empty]; simpa using hn
  go_wp2_with fail
  cases hk : tk [61] s with
  | none =>
    rw [hk] at HI
    refine (take_no R [61] hk w2 r2).mono ?_
    rintro e w3 ⟨rfl, m3, r3⟩
    have HX3 := Lib.hid (HX2.out.mv m3 hne hs2)
    have HM3 := Lib.hid (HM2.out.trans m3)
    obtain ⟨c0, c1, fr⟩ := HX3.out
    have fr0 := fr 0
    have fr1 := fr 1
    clear hn fr hk
    go_wp2_with fail
    exact bodyPost_ret (v := .tuple #[atV ([], []), .int .i64 11]) (by simp [results, Tryd.results78, go_sem, c0, c1, atV]; rfl) rfl ⟨(set2 HM3.out r3 H.out.lt _ (Nat.le_refl _) _ _).1, .inr ⟨HI.out, _, rfl, _, (set2 HM3.out r3 H.out.lt _ (Nat.le_refl _) _ _).2⟩⟩
  | some r =>
    rw [hk] at HI
    have HI2 : Hid (attrL l = quoteL n (skipB r)) := HI
    have hrl := tk_len hk
    have hvr := v_tk hk (by decide) hvs
    have hrl2 : r.length ≤ 1000000 := by omega
    refine (take_yes R [61] hk w2 r2).mono ?_
    rintro e w3 ⟨rfl, m3, r3⟩
    have HX3 := Lib.hid (HX2.out.mv m3 hne hs2)
    have HM3 := Lib.hid (HM2.out.trans m3)
    have HE3 := Lib.hid (HE2.out.mv H.out.ge m3)
    have hs3 := Nat.lt_of_lt_of_le hs2 m3.size
    have hrls : r.length ≤ s.length := by omega
    clear HI hk hrl HX2 HM2 HE2 r2 m3 hs2 hn
    go_wp2_with fail
    refine (blanks_any R r hrl2 w3 r3).mono ?_
    rintro e w4 ⟨rfl, m4, r4⟩
    have HX4 := Lib.hid (HX3.out.mv m4 hne hs3)
    have HM4 := Lib.hid (HM3.out.trans m4)
    have HE4 := Lib.hid (HE3.out.mv H.out.ge m4)
    have hs4 := Nat.lt_of_lt_of_le hs3 m4.size
    have hsk4 := skip_len r
    have hvs4 := v_skip hvr
    clear HX3 HM3 HE3 r3 m4 hs3 hvr
    generalize skipB r = s4 at *
    have hs4l : s4.length ≤ 1000000 := by omega
    have hs4t : s4.length ≤ l.length := by omega
    clear hsk hsk4 hrl2 hlt hln hvn hvs
    go_wp2_with fail
    have hb5 : Below w4.heap.size w4 (w4.alloc (.cells #[.string ⟨#[34]⟩, .string ⟨#[39]⟩] 9)) := (Below.refl _ _).alloc (Nat.le_refl _) _
    have HX5 := Lib.hid (HX4.out.mv (Mv.of r4.lt hb5) hne hs4)
    have HM5 := Lib.hid (HM4.out.trans (Mv.of r4.lt hb5))
    have HE5 := Lib.hid (HE4.out.below HE4.out.2.2.2.2 hb5)
    have HR5 := Lib.hid (r4.below hb5)
    have hQ := Bx.new w4 (.string ⟨#[34]⟩) (.string ⟨#[39]⟩) 9
    have HQ := Lib.hid hQ
    have hs5 : w4.heap.size < (w4.alloc (.cells #[.string ⟨#[34]⟩, .string ⟨#[39]⟩] 9)).heap.size := by simp
    have hneQ : w4.heap.size ≠ R := by have := r4.lt; omega
    clear hb5 hQ HX4 HM4 HE4 r4
    generalize w4.alloc (.cells #[.string ⟨#[34]⟩, .string ⟨#[39]⟩] 9) = w5 at *
    go_loopg [25] 2 (fun gg i wr => ∃ z : Int, i = .int .i64 z ∧ Hid (Rst wr R s4) ∧ Hid (Mv w wr R) ∧ Hid (Env wr) ∧ Hid (Bx wr w.heap.size (.string ⟨#[]⟩) (.string ⟨#[]⟩)) ∧ Hid (Bx wr w4.heap.size (.string ⟨#[34]⟩) (.string ⟨#[39]⟩)) ∧ w4.heap.size < wr.heap.size ∧
      ((z = 0 ∧ gg = 2) ∨ (z = 1 ∧ gg = 1 ∧ Hid (tk [34] s4 = none)) ∨ (z = 2 ∧ gg = 0 ∧ Hid (tk [34] s4 = none) ∧ Hid (tk [39] s4 = none))))
    case atStart => exact ⟨0, rfl, HR5, HM5, HE5, HX5, HQ, hs5, .inl ⟨rfl, rfl⟩⟩
    case round =>
      obtain ⟨z, rfl, HRr, HMr, HEr, HXr, HQr, hsr, hz⟩ := hrel
      rcases hz with ⟨rfl, hg⟩ | ⟨rfl, hg, HT1⟩ | ⟨rfl, hg, HT1, HT2⟩
      · have q0 := HQr.out.c0
        go_wp2_with fail
        cases hk : tk [34] s4 with
        | some r =>
          have HQL := Lib.hid (quote1 n s4 r 34 (.inl rfl) hk)
          have hrl := tk_len hk
          have hvr := v_tk hk (by decide) hvs4
          have hrl2 : r.length ≤ 1000000 := by omega
          refine (take_yes R [34] hk wr HRr.out).mono ?_
          rintro e w6 ⟨rfl, m6, r6⟩
          have hE6 := HEr.out.mv H.out.ge m6
          have HX6 := Lib.hid (HXr.out.mv m6 hne (by omega))
          have hs6 := Nat.lt_of_lt_of_le hsr m6.size
          have hrs : r.length ≤ s4.length := by omega
          clear hk hrl
          go_wp2_with fail
          refine (value_any R 34 (.inl rfl) r hrl2 hvr w6 r6 hE6).mono ?_
          rintro e w7 ⟨m7, ⟨v, r', hn, rfl, r7, hv7, hl7⟩ | ⟨hn, rfl, l', r7⟩⟩
          · have HX7 := Lib.hid (HX6.out.mv m7 hne (by omega))
            obtain ⟨c0, c1, fr⟩ := HX7.out
            have fr0 := fr 0
            have fr1 := fr 1
            have HM7 := Lib.hid ((HMr.out.trans m6).trans m7)
            have HF : Hid (attrL l = some ((n, v), r')) := by show _ = _; rw [HI2.out, HQL.out, hn]; rfl
            clear hn fr q0
            go_wp2_with fail
            exact bodyPost_ret (v := .tuple #[atV (n, v), .int .i64 0]) (by simp [results, Tryd.results78, go_sem, c0, c1, atV]) rfl ⟨(set2 HM7.out r7 H.out.lt _ (Nat.le_refl _) _ _).1, .inl ⟨_, _, HF.out, rfl, (set2 HM7.out r7 H.out.lt _ (Nat.le_refl _) _ _).2, hv7, by omega⟩⟩
          · have HX7 := Lib.hid (HX6.out.mv m7 hne (by omega))
            obtain ⟨c0, c1, fr⟩ := HX7.out
            have fr0 := fr 0
            have fr1 := fr 1
            have HM7 := Lib.hid ((HMr.out.trans m6).trans m7)
            have HF : Hid (attrL l = none) := by show _ = _; rw [HI2.out, HQL.out, hn]; rfl
            clear hn fr q0
            go_wp2_with fail
            exact bodyPost_ret (v := .tuple #[atV (n, []), .int .i64 11]) (by simp [results, Tryd.results78, go_sem, c0, c1, atV]; rfl) rfl ⟨(set2 HM7.out r7 H.out.lt _ (Nat.le_refl _) _ _).1, .inr ⟨HF.out, _, rfl, _, (set2 HM7.out r7 H.out.lt _ (Nat.le_refl _) _ _).2⟩⟩
        | none =>
          have HK := Lib.hid hk
          refine (take_no R [34] hk wr HRr.out).mono ?_
          rintro e w6 ⟨rfl, m6, r6⟩
          clear hk q0
          go_wp2_with fail
          go_roundg 1
          case rel => exact ⟨1, rfl, r6, HMr.out.trans m6, HEr.out.mv H.out.ge m6, HXr.out.mv m6 hne (by omega), HQr.out.mv m6 hneQ hsr, Nat.lt_of_lt_of_le hsr m6.size, .inr (.inl ⟨rfl, rfl, HK⟩)⟩
          case measure => omega
      · have q1 := HQr.out.c1
        go_wp2_with fail
        cases hk : tk [39] s4 with
        | some r =>
          have HQL := Lib.hid (quote1 n s4 r 39 (.inr rfl) hk)
          have hrl := tk_len hk
          have hvr := v_tk hk (by decide) hvs4
          have hrl2 : r.length ≤ 1000000 := by omega
          refine (take_yes R [39] hk wr HRr.out).mono ?_
          rintro e w6 ⟨rfl, m6, r6⟩
          have hE6 := HEr.out.mv H.out.ge m6
          have HX6 := Lib.hid (HXr.out.mv m6 hne (by omega))
          have hs6 := Nat.lt_of_lt_of_le hsr m6.size
          have hrs : r.length ≤ s4.length := by omega
          clear hk hrl
          go_wp2_with fail
          refine (value_any R 39 (.inr rfl) r hrl2 hvr w6 r6 hE6).mono ?_
          rintro e w7 ⟨m7, ⟨v, r', hn, rfl, r7, hv7, hl7⟩ | ⟨hn, rfl, l', r7⟩⟩
          · have HX7 := Lib.hid (HX6.out.mv m7 hne (by omega))
            obtain ⟨c0, c1, fr⟩ := HX7.out
            have fr0 := fr 0
            have fr1 := fr 1
            have HM7 := Lib.hid ((HMr.out.trans m6).trans m7)
            have HF : Hid (attrL l = some ((n, v), r')) := by show _ = _; rw [HI2.out, HQL.out, hn]; rfl
            clear hn fr q1
            go_wp2_with fail
            exact bodyPost_ret (v := .tuple #[atV (n, v), .int .i64 0]) (by simp [results, Tryd.results78, go_sem, c0, c1, atV]) rfl ⟨(set2 HM7.out r7 H.out.lt _ (Nat.le_refl _) _ _).1, .inl ⟨_, _, HF.out, rfl, (set2 HM7.out r7 H.out.lt _ (Nat.le_refl _) _ _).2, hv7, by omega⟩⟩
          · have HX7 := Lib.hid (HX6.out.mv m7 hne (by omega))
            obtain ⟨c0, c1, fr⟩ := HX7.out
            have fr0 := fr 0
            have fr1 := fr 1
            have HM7 := Lib.hid ((HMr.out.trans m6).trans m7)
            have HF : Hid (attrL l = none) := by show _ = _; rw [HI2.out, HQL.out, hn]; rfl
            clear hn fr q1
            go_wp2_with fail
            exact bodyPost_ret (v := .tuple #[atV (n, []), .int .i64 11]) (by simp [results, Tryd.results78, go_sem, c0, c1, atV]; rfl) rfl ⟨(set2 HM7.out r7 H.out.lt _ (Nat.le_refl _) _ _).1, .inr ⟨HF.out, _, rfl, _, (set2 HM7.out r7 H.out.lt _ (Nat.le_refl _) _ _).2⟩⟩
        | none =>
          have HK := Lib.hid hk
          refine (take_no R [39] hk wr HRr.out).mono ?_
          rintro e w6 ⟨rfl, m6, r6⟩
          clear hk q1
          go_wp2_with fail
          go_roundg 0
          case rel => exact ⟨2, rfl, r6, HMr.out.trans m6, HEr.out.mv H.out.ge m6, HXr.out.mv m6 hne (by omega), HQr.out.mv m6 hneQ hsr, Nat.lt_of_lt_of_le hsr m6.size, .inr (.inr ⟨rfl, rfl, HT1, HK⟩)⟩
          case measure => omega
      · obtain ⟨c0, c1, fr⟩ := HXr.out
        have fr0 := fr 0
        have fr1 := fr 1
        have HF : Hid (attrL l = none) := by show _ = _; rw [HI2.out]; exact quote0 n s4 HT1.out HT2.out
        clear fr
        go_wp2_with fail
        exact bodyPost_ret (v := .tuple #[atV ([], []), .int .i64 11]) (by simp [results, Tryd.results78, go_sem, c0, c1, atV]; rfl) rfl ⟨(set2 HMr.out HRr.out H.out.lt _ (Nat.le_refl _) _ _).1, .inr ⟨HF.out, _, rfl, _, (set2 HMr.out HRr.out H.out.lt _ (Nat.le_refl _) _ _).2⟩⟩
end Go.Proofs.YtbehfhdkdekjfaaDoor
