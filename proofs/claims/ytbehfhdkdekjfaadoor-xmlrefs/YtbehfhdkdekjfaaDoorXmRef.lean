/- The reader's reference. -/
import Derived.Test.YtbehfhdkdekjfaaDoorXmNum
namespace Go.Proofs.YtbehfhdkdekjfaaDoor
open Go.RowKit
set_option maxRecDepth 100000

def refTail (l : L8) : Option (Nat × L8) := match tk [35, 120] l with
  | some r => numberL 16 r
  | none => match tk [35] l with
  | some r => numberL 10 r
  | none => none
def refG : List (L8 × Nat) → L8 → Option (Nat × L8)
  | [], l => refTail l
  | x :: t, l => match tk x.1 l with
    | some r => some (x.2, r)
    | none => refG t l
def refT : List (L8 × Nat) := [([108, 116, 59], 60), ([103, 116, 59], 62), ([97, 109, 112, 59], 38), ([97, 112, 111, 115, 59], 39), ([113, 117, 111, 116, 59], 34)]
theorem ref_eq (l : L8) : refL l = refG refT l := rfl
theorem mv_cell {w w' : World} {R B o : Nat} {v : Value} (m : Mv w w' R) (hne : B ≠ R) (hlt : B < w.heap.size) (h : w.cell? ⟨B, o, none⟩ = some v) : w'.cell? ⟨B, o, none⟩ = some v :=
  (World.cell?_of_block (w := w) (a := ⟨B, o, none⟩) (m.block B hlt hne)).trans h
/-- The five names in memory. -/
def RefRow (w : World) (B : Nat) : Prop := w.cell? ⟨B, 0, none⟩ = some (.string ⟨#[108, 116, 59]⟩) ∧ w.cell? ⟨B, 1, none⟩ = some (.int .i32 60) ∧ w.cell? ⟨B, 2, none⟩ = some (.string ⟨#[103, 116, 59]⟩) ∧ w.cell? ⟨B, 3, none⟩ = some (.int .i32 62) ∧ w.cell? ⟨B, 4, none⟩ = some (.string ⟨#[97, 109, 112, 59]⟩) ∧ w.cell? ⟨B, 5, none⟩ = some (.int .i32 38) ∧ w.cell? ⟨B, 6, none⟩ = some (.string ⟨#[97, 112, 111, 115, 59]⟩) ∧ w.cell? ⟨B, 7, none⟩ = some (.int .i32 39) ∧ w.cell? ⟨B, 8, none⟩ = some (.string ⟨#[113, 117, 111, 116, 59]⟩) ∧ w.cell? ⟨B, 9, none⟩ = some (.int .i32 34)
theorem RefRow.mv {w w' : World} {R B : Nat} (h : RefRow w B) (m : Mv w w' R) (hne : B ≠ R) (hlt : B < w.heap.size) : RefRow w' B := by
  obtain ⟨h0, h1, h2, h3, h4, h5, h6, h7, h8, h9⟩ := h
  exact ⟨mv_cell m hne hlt h0, mv_cell m hne hlt h1, mv_cell m hne hlt h2, mv_cell m hne hlt h3, mv_cell m hne hlt h4, mv_cell m hne hlt h5, mv_cell m hne hlt h6, mv_cell m hne hlt h7, mv_cell m hne hlt h8, mv_cell m hne hlt h9⟩
theorem box2 {w : World} {a b : Value} {T : TypeId} : (w.alloc (.cells #[a, b] T)).cell? ⟨w.heap.size, 0, none⟩ = some a ∧ (w.alloc (.cells #[a, b] T)).cell? ⟨w.heap.size, 1, none⟩ = some b := by
  refine ⟨?_, ?_⟩ <;> simp only [World.cell?, heap_alloc_new] <;> rfl
set_option maxHeartbeats 4000000 in
theorem reference_any (R : Nat) (l : L8) (hl : l.length ≤ 1000000) (w : World) (h : Rst w R l) (hE : Env w) :
    Calls Tryd.prog 61 #[.pointer (some ⟨R, 0, none⟩)] w (SignPost R (refL l) w) := by
  have HE := Lib.hid hE
  have H := Lib.hid h
  have HI : Hid (refL l = refG refT l) := ref_eq l
  clear h hE
  go_enter Tryd.func61, Tryd.ntmps61
  go_wp2_with fail
  obtain ⟨w0, hw0⟩ : ∃ w0, w0 = (w.alloc (.cells #[.string ⟨#[108, 116, 59]⟩, .int .i32 60, .string ⟨#[103, 116, 59]⟩, .int .i32 62, .string ⟨#[97, 109, 112, 59]⟩, .int .i32 38, .string ⟨#[97, 112, 111, 115, 59]⟩, .int .i32 39, .string ⟨#[113, 117, 111, 116, 59]⟩, .int .i32 34] 110)) := ⟨_, rfl⟩
  have HR0 : Hid (RefRow w0 w.heap.size) := by
    rw [hw0]
    refine ⟨?_, ?_, ?_, ?_, ?_, ?_, ?_, ?_, ?_, ?_⟩ <;> simp only [World.cell?, heap_alloc_new] <;> rfl
  have HB0 : Hid (Below w.heap.size w w0) := by rw [hw0]; exact (Below.refl _ _).alloc (Nat.le_refl _) _
  have hs0 : w.heap.size < w0.heap.size := by rw [hw0]; simp
  rw [← hw0]
  clear hw0
  have hne : w.heap.size ≠ R := by have := H.out.lt; omega
  go_loopg [13] 5 (fun gg i wr => ∃ z : Int, i = .int .i64 z ∧ Hid (Rst wr R l) ∧ Hid (Mv w wr R) ∧ Hid (RefRow wr w.heap.size) ∧ w.heap.size < wr.heap.size ∧ ((z = 0 ∧ gg = 5 ∧ Hid (refL l = refG (refT.drop 0) l)) ∨ (z = 1 ∧ gg = 4 ∧ Hid (refL l = refG (refT.drop 1) l)) ∨ (z = 2 ∧ gg = 3 ∧ Hid (refL l = refG (refT.drop 2) l)) ∨ (z = 3 ∧ gg = 2 ∧ Hid (refL l = refG (refT.drop 3) l)) ∨ (z = 4 ∧ gg = 1 ∧ Hid (refL l = refG (refT.drop 4) l)) ∨ (z = 5 ∧ gg = 0 ∧ Hid (refL l = refG (refT.drop 5) l))))
  case atStart => exact ⟨0, rfl, H.out.below HB0.out, Mv.of H.out.lt HB0.out, HR0, hs0, .inl ⟨rfl, rfl, HI⟩⟩
  case round =>
    obtain ⟨z, rfl, hR, hM, hRow, hsz, hz⟩ := hrel
    rcases hz with ⟨rfl, hg, HG⟩ | ⟨rfl, hg, HG⟩ | ⟨rfl, hg, HG⟩ | ⟨rfl, hg, HG⟩ | ⟨rfl, hg, HG⟩ | ⟨rfl, hg, HG⟩
    · obtain ⟨c0, c1, c2, c3, c4, c5, c6, c7, c8, c9⟩ := hRow.out
      have HG2 : Hid (refL l = match tk [108, 116, 59] l with | some r => some (60, r) | none => refG (refT.drop 1) l) := HG
      clear HG c2 c3 c4 c5 c6 c7 c8 c9
      have hbW : Below wr.heap.size wr (wr.alloc (.cells #[.string ⟨#[108, 116, 59]⟩, .int .i32 60] 110)) := (Below.refl _ _).alloc (Nat.le_refl _) _
      have HRW := Lib.hid (hR.out.below hbW)
      have HMW := Lib.hid (hM.out.trans (Mv.of hR.out.lt hbW))
      have hbx := (box2 (w := wr) (a := .string ⟨#[108, 116, 59]⟩) (b := .int .i32 60) (T := 110))
      have hsW : wr.heap.size < (wr.alloc (.cells #[.string ⟨#[108, 116, 59]⟩, .int .i32 60] 110)).heap.size := by simp
      have hRowW := hRow.out.mv (Mv.of hR.out.lt hbW) hne hsz
      have HRowW := Lib.hid hRowW
      have hneW : wr.heap.size ≠ R := by have := hR.out.lt; omega
      clear hbW hRowW
      have c1' := hbx.1
      go_wp2_with fail
      generalize wr.alloc (.cells #[.string ⟨#[108, 116, 59]⟩, .int .i32 60] 110) = W at *
      cases hk : tk [108, 116, 59] l with
      | some r =>
        rw [hk] at HG2
        refine (take_yes R [108, 116, 59] hk W HRW.out).mono ?_
        rintro e w2 ⟨rfl, m2, r2⟩
        have cc := mv_cell m2 hneW hsW hbx.2
        clear hk hbx
        go_wp2_with fail
        go_ret2
        exact ⟨HMW.out.trans m2, .inl ⟨60, r, HG2.out, rfl, r2⟩⟩
      | none =>
        rw [hk] at HG2
        refine (take_no R [108, 116, 59] hk W HRW.out).mono ?_
        rintro e w2 ⟨rfl, m2, r2⟩
        have hRow2 := HRowW.out.mv m2 hne (Nat.lt_trans hsz hsW)
        have hs2 : w.heap.size < w2.heap.size := Nat.lt_of_lt_of_le (Nat.lt_trans hsz hsW) m2.size
        have HRow2 := Lib.hid hRow2
        clear hk hbx hRow2
        go_wp2_with fail
        go_roundg 4
        case rel => exact ⟨1, rfl, r2, HMW.out.trans m2, HRow2, hs2, .inr (.inl ⟨rfl, rfl, HG2⟩)⟩
        case measure => omega
    · obtain ⟨c0, c1, c2, c3, c4, c5, c6, c7, c8, c9⟩ := hRow.out
      have HG2 : Hid (refL l = match tk [103, 116, 59] l with | some r => some (62, r) | none => refG (refT.drop 2) l) := HG
      clear HG c0 c1 c4 c5 c6 c7 c8 c9
      have hbW : Below wr.heap.size wr (wr.alloc (.cells #[.string ⟨#[103, 116, 59]⟩, .int .i32 62] 110)) := (Below.refl _ _).alloc (Nat.le_refl _) _
      have HRW := Lib.hid (hR.out.below hbW)
      have HMW := Lib.hid (hM.out.trans (Mv.of hR.out.lt hbW))
      have hbx := (box2 (w := wr) (a := .string ⟨#[103, 116, 59]⟩) (b := .int .i32 62) (T := 110))
      have hsW : wr.heap.size < (wr.alloc (.cells #[.string ⟨#[103, 116, 59]⟩, .int .i32 62] 110)).heap.size := by simp
      have hRowW := hRow.out.mv (Mv.of hR.out.lt hbW) hne hsz
      have HRowW := Lib.hid hRowW
      have hneW : wr.heap.size ≠ R := by have := hR.out.lt; omega
      clear hbW hRowW
      have c1' := hbx.1
      go_wp2_with fail
      generalize wr.alloc (.cells #[.string ⟨#[103, 116, 59]⟩, .int .i32 62] 110) = W at *
      cases hk : tk [103, 116, 59] l with
      | some r =>
        rw [hk] at HG2
        refine (take_yes R [103, 116, 59] hk W HRW.out).mono ?_
        rintro e w2 ⟨rfl, m2, r2⟩
        have cc := mv_cell m2 hneW hsW hbx.2
        clear hk hbx
        go_wp2_with fail
        go_ret2
        exact ⟨HMW.out.trans m2, .inl ⟨62, r, HG2.out, rfl, r2⟩⟩
      | none =>
        rw [hk] at HG2
        refine (take_no R [103, 116, 59] hk W HRW.out).mono ?_
        rintro e w2 ⟨rfl, m2, r2⟩
        have hRow2 := HRowW.out.mv m2 hne (Nat.lt_trans hsz hsW)
        have hs2 : w.heap.size < w2.heap.size := Nat.lt_of_lt_of_le (Nat.lt_trans hsz hsW) m2.size
        have HRow2 := Lib.hid hRow2
        clear hk hbx hRow2
        go_wp2_with fail
        go_roundg 3
        case rel => exact ⟨2, rfl, r2, HMW.out.trans m2, HRow2, hs2, .inr (.inr (.inl ⟨rfl, rfl, HG2⟩))⟩
        case measure => omega
    · obtain ⟨c0, c1, c2, c3, c4, c5, c6, c7, c8, c9⟩ := hRow.out
      have HG2 : Hid (refL l = match tk [97, 109, 112, 59] l with | some r => some (38, r) | none => refG (refT.drop 3) l) := HG
      clear HG c0 c1 c2 c3 c6 c7 c8 c9
      have hbW : Below wr.heap.size wr (wr.alloc (.cells #[.string ⟨#[97, 109, 112, 59]⟩, .int .i32 38] 110)) := (Below.refl _ _).alloc (Nat.le_refl _) _
      have HRW := Lib.hid (hR.out.below hbW)
      have HMW := Lib.hid (hM.out.trans (Mv.of hR.out.lt hbW))
      have hbx := (box2 (w := wr) (a := .string ⟨#[97, 109, 112, 59]⟩) (b := .int .i32 38) (T := 110))
      have hsW : wr.heap.size < (wr.alloc (.cells #[.string ⟨#[97, 109, 112, 59]⟩, .int .i32 38] 110)).heap.size := by simp
      have hRowW := hRow.out.mv (Mv.of hR.out.lt hbW) hne hsz
      have HRowW := Lib.hid hRowW
      have hneW : wr.heap.size ≠ R := by have := hR.out.lt; omega
      clear hbW hRowW
      have c1' := hbx.1
      go_wp2_with fail
      generalize wr.alloc (.cells #[.string ⟨#[97, 109, 112, 59]⟩, .int .i32 38] 110) = W at *
      cases hk : tk [97, 109, 112, 59] l with
      | some r =>
        rw [hk] at HG2
        refine (take_yes R [97, 109, 112, 59] hk W HRW.out).mono ?_
        rintro e w2 ⟨rfl, m2, r2⟩
        have cc := mv_cell m2 hneW hsW hbx.2
        clear hk hbx
        go_wp2_with fail
        go_ret2
        exact ⟨HMW.out.trans m2, .inl ⟨38, r, HG2.out, rfl, r2⟩⟩
      | none =>
        rw [hk] at HG2
        refine (take_no R [97, 109, 112, 59] hk W HRW.out).mono ?_
        rintro e w2 ⟨rfl, m2, r2⟩
        have hRow2 := HRowW.out.mv m2 hne (Nat.lt_trans hsz hsW)
        have hs2 : w.heap.size < w2.heap.size := Nat.lt_of_lt_of_le (Nat.lt_trans hsz hsW) m2.size
        have HRow2 := Lib.hid hRow2
        clear hk hbx hRow2
        go_wp2_with fail
        go_roundg 2
        case rel => exact ⟨3, rfl, r2, HMW.out.trans m2, HRow2, hs2, .inr (.inr (.inr (.inl ⟨rfl, rfl, HG2⟩)))⟩
        case measure => omega
    · obtain ⟨c0, c1, c2, c3, c4, c5, c6, c7, c8, c9⟩ := hRow.out
      have HG2 : Hid (refL l = match tk [97, 112, 111, 115, 59] l with | some r => some (39, r) | none => refG (refT.drop 4) l) := HG
      clear HG c0 c1 c2 c3 c4 c5 c8 c9
      have hbW : Below wr.heap.size wr (wr.alloc (.cells #[.string ⟨#[97, 112, 111, 115, 59]⟩, .int .i32 39] 110)) := (Below.refl _ _).alloc (Nat.le_refl _) _
      have HRW := Lib.hid (hR.out.below hbW)
      have HMW := Lib.hid (hM.out.trans (Mv.of hR.out.lt hbW))
      have hbx := (box2 (w := wr) (a := .string ⟨#[97, 112, 111, 115, 59]⟩) (b := .int .i32 39) (T := 110))
      have hsW : wr.heap.size < (wr.alloc (.cells #[.string ⟨#[97, 112, 111, 115, 59]⟩, .int .i32 39] 110)).heap.size := by simp
      have hRowW := hRow.out.mv (Mv.of hR.out.lt hbW) hne hsz
      have HRowW := Lib.hid hRowW
      have hneW : wr.heap.size ≠ R := by have := hR.out.lt; omega
      clear hbW hRowW
      have c1' := hbx.1
      go_wp2_with fail
      generalize wr.alloc (.cells #[.string ⟨#[97, 112, 111, 115, 59]⟩, .int .i32 39] 110) = W at *
      cases hk : tk [97, 112, 111, 115, 59] l with
      | some r =>
        rw [hk] at HG2
        refine (take_yes R [97, 112, 111, 115, 59] hk W HRW.out).mono ?_
        rintro e w2 ⟨rfl, m2, r2⟩
        have cc := mv_cell m2 hneW hsW hbx.2
        clear hk hbx
        go_wp2_with fail
        go_ret2
        exact ⟨HMW.out.trans m2, .inl ⟨39, r, HG2.out, rfl, r2⟩⟩
      | none =>
        rw [hk] at HG2
        refine (take_no R [97, 112, 111, 115, 59] hk W HRW.out).mono ?_
        rintro e w2 ⟨rfl, m2, r2⟩
        have hRow2 := HRowW.out.mv m2 hne (Nat.lt_trans hsz hsW)
        have hs2 : w.heap.size < w2.heap.size := Nat.lt_of_lt_of_le (Nat.lt_trans hsz hsW) m2.size
        have HRow2 := Lib.hid hRow2
        clear hk hbx hRow2
        go_wp2_with fail
        go_roundg 1
        case rel => exact ⟨4, rfl, r2, HMW.out.trans m2, HRow2, hs2, .inr (.inr (.inr (.inr (.inl ⟨rfl, rfl, HG2⟩))))⟩
        case measure => omega
    · obtain ⟨c0, c1, c2, c3, c4, c5, c6, c7, c8, c9⟩ := hRow.out
      have HG2 : Hid (refL l = match tk [113, 117, 111, 116, 59] l with | some r => some (34, r) | none => refG (refT.drop 5) l) := HG
      clear HG c0 c1 c2 c3 c4 c5 c6 c7
      have hbW : Below wr.heap.size wr (wr.alloc (.cells #[.string ⟨#[113, 117, 111, 116, 59]⟩, .int .i32 34] 110)) := (Below.refl _ _).alloc (Nat.le_refl _) _
      have HRW := Lib.hid (hR.out.below hbW)
      have HMW := Lib.hid (hM.out.trans (Mv.of hR.out.lt hbW))
      have hbx := (box2 (w := wr) (a := .string ⟨#[113, 117, 111, 116, 59]⟩) (b := .int .i32 34) (T := 110))
      have hsW : wr.heap.size < (wr.alloc (.cells #[.string ⟨#[113, 117, 111, 116, 59]⟩, .int .i32 34] 110)).heap.size := by simp
      have hRowW := hRow.out.mv (Mv.of hR.out.lt hbW) hne hsz
      have HRowW := Lib.hid hRowW
      have hneW : wr.heap.size ≠ R := by have := hR.out.lt; omega
      clear hbW hRowW
      have c1' := hbx.1
      go_wp2_with fail
      generalize wr.alloc (.cells #[.string ⟨#[113, 117, 111, 116, 59]⟩, .int .i32 34] 110) = W at *
      cases hk : tk [113, 117, 111, 116, 59] l with
      | some r =>
        rw [hk] at HG2
        refine (take_yes R [113, 117, 111, 116, 59] hk W HRW.out).mono ?_
        rintro e w2 ⟨rfl, m2, r2⟩
        have cc := mv_cell m2 hneW hsW hbx.2
        clear hk hbx
        go_wp2_with fail
        go_ret2
        exact ⟨HMW.out.trans m2, .inl ⟨34, r, HG2.out, rfl, r2⟩⟩
      | none =>
        rw [hk] at HG2
        refine (take_no R [113, 117, 111, 116, 59] hk W HRW.out).mono ?_
        rintro e w2 ⟨rfl, m2, r2⟩
        have hRow2 := HRowW.out.mv m2 hne (Nat.lt_trans hsz hsW)
        have hs2 : w.heap.size < w2.heap.size := Nat.lt_of_lt_of_le (Nat.lt_trans hsz hsW) m2.size
        have HRow2 := Lib.hid hRow2
        clear hk hbx hRow2
        go_wp2_with fail
        go_roundg 0
        case rel => exact ⟨5, rfl, r2, HMW.out.trans m2, HRow2, hs2, .inr (.inr (.inr (.inr (.inr (⟨rfl, rfl, HG2⟩)))))⟩
        case measure => omega
    · have HG2 : Hid (refL l = match tk [35, 120] l with | some r => numberL 16 r | none => match tk [35] l with | some r => numberL 10 r | none => none) := HG
      have hE1 := Lib.hid (HE.out.mv H.out.ge hM.out)
      clear HG
      go_wp2_with fail
      cases hk : tk [35, 120] l with
      | some r =>
        rw [hk] at HG2
        have hrl := tk_len hk
        refine (take_yes R [35, 120] hk wr hR.out).mono ?_
        rintro e w2 ⟨rfl, m2, r2⟩
        have hE2 := hE1.out.mv H.out.ge m2
        have hrl2 : r.length ≤ 1000000 := by omega
        clear hk hrl
        go_wp2_with fail
        refine (number_any R 16 (.inr rfl) r hrl2 w2 r2 hE2).mono ?_
        rintro e w3 ⟨m3, ⟨n, r', hn, rfl, r3⟩ | ⟨hn, rfl, l', r3⟩⟩
        · have HE3 : Hid (refL l = some (n, r')) := HG2.out.trans hn
          clear hn
          go_wp2_with fail
          go_ret2
          exact ⟨(hM.out.trans m2).trans m3, .inl ⟨n, r', HE3.out, rfl, r3⟩⟩
        · have HE3 : Hid (refL l = none) := HG2.out.trans hn
          clear hn
          go_wp2_with fail
          go_ret2
          exact ⟨(hM.out.trans m2).trans m3, .inr ⟨HE3.out, rfl, l', r3⟩⟩
      | none =>
        rw [hk] at HG2
        refine (take_no R [35, 120] hk wr hR.out).mono ?_
        rintro e w2 ⟨rfl, m2, r2⟩
        have hE2 := hE1.out.mv H.out.ge m2
        clear hk
        go_wp2_with fail
        cases hk : tk [35] l with
        | some r =>
          rw [hk] at HG2
          have hrl := tk_len hk
          refine (take_yes R [35] hk w2 r2).mono ?_
          rintro e w3 ⟨rfl, m3, r3⟩
          have hE3 := hE2.mv H.out.ge m3
          have hrl2 : r.length ≤ 1000000 := by omega
          clear hk hrl
          go_wp2_with fail
          refine (number_any R 10 (.inl rfl) r hrl2 w3 r3 hE3).mono ?_
          rintro e w4 ⟨m4, ⟨n, r', hn, rfl, r4⟩ | ⟨hn, rfl, l', r4⟩⟩
          · have HE3 : Hid (refL l = some (n, r')) := HG2.out.trans hn
            clear hn
            go_wp2_with fail
            go_ret2
            exact ⟨((hM.out.trans m2).trans m3).trans m4, .inl ⟨n, r', HE3.out, rfl, r4⟩⟩
          · have HE3 : Hid (refL l = none) := HG2.out.trans hn
            clear hn
            go_wp2_with fail
            go_ret2
            exact ⟨((hM.out.trans m2).trans m3).trans m4, .inr ⟨HE3.out, rfl, l', r4⟩⟩
        | none =>
          rw [hk] at HG2
          have HE3 : Hid (refL l = none) := HG2
          refine (take_no R [35] hk w2 r2).mono ?_
          rintro e w3 ⟨rfl, m3, r3⟩
          clear hk HG2
          go_wp2_with fail
          go_ret2
          exact ⟨(hM.out.trans m2).trans m3, .inr ⟨HE3.out, rfl, _, r3⟩⟩
end Go.Proofs.YtbehfhdkdekjfaaDoor
