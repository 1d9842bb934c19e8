/- strings.ContainsAny of any text, and a dot, ! and ?. -/
import Derived.Test.YtpgfiecfndkheaaDoorTkW1
import Derived.Lib.OthersKept
import Derived.Laws.RangeAny
import Derived.Laws.Runes
import Derived.Lib.IndexAny
import Derived.BigQuiet
import Derived.WalkMore
namespace Go.Proofs.YtpgfiecfndkheaaDoor
open Go.RowKit
set_option maxRecDepth 100000

abbrev stp : ByteArray := ⟨#[46, 33, 63]⟩
theorem dec_valid (s : ByteArray) (p : Nat) (h : p < s.size) (ha : 128 ≤ (s[p]'h).toNat) : Utf8.valid (((Utf8.decode s p).1 : Nat) : Int) = true ∧ (Utf8.decode s p).1 ≤ 1114111 ∧ 128 ≤ (Utf8.decode s p).1 ∧ 1 ≤ (Utf8.decode s p).2 ∧ p + (Utf8.decode s p).2 ≤ s.size ∧
    ∀ j, 0 < j → j < (Utf8.decode s p).2 → 128 ≤ (s.get! (p + j)).toNat := by
  have hn : ¬ (s[p]'h).toNat < 128 := by omega
  have hb : ∀ k, (s.get! (p + k)).toNat < 256 := fun k => (s.get! (p + k)).toNat_lt
  have h0 := hb 0; have h1 := hb 1; have h2 := hb 2; have h3 := hb 3
  have hg := get_at s p h
  have hv : Utf8.valid ((65533 : Nat) : Int) = true := by decide
  simp only [Utf8.decode, hg, hn, if_false]
  split
  · rename_i hc
    simp only [Bool.and_eq_true, decide_eq_true_eq, beq_iff_eq] at hc
    split
    · refine ⟨by simp [Utf8.valid]; omega, by dsimp only; omega, by dsimp only; omega, by dsimp only; omega, by dsimp only; omega, fun j hj1 hj2 => ?_⟩
      dsimp only at hj2
      obtain rfl : j = 1 := by omega
      omega
    · exact ⟨hv, by decide, by decide, Nat.le_refl _, by dsimp only; omega, fun j hj1 hj2 => by dsimp only at hj2; omega⟩
  · split
    · rename_i hc
      simp only [Bool.and_eq_true, decide_eq_true_eq, beq_iff_eq] at hc
      split
      · rename_i hd
        simp only [Bool.and_eq_true, decide_eq_true_eq] at hd
        refine ⟨hd.2, by dsimp only; omega, by dsimp only; omega, by dsimp only; omega, by dsimp only; omega, fun j hj1 hj2 => ?_⟩
        dsimp only at hj2
        obtain rfl | rfl : j = 1 ∨ j = 2 := by omega
        all_goals omega
      · exact ⟨hv, by decide, by decide, Nat.le_refl _, by dsimp only; omega, fun j hj1 hj2 => by dsimp only at hj2; omega⟩
    · split
      · rename_i hc
        simp only [Bool.and_eq_true, decide_eq_true_eq, beq_iff_eq] at hc
        split
        · rename_i hd
          simp only [Bool.and_eq_true, decide_eq_true_eq] at hd
          have hv2 := hd.2
          simp only [Utf8.valid, Bool.or_eq_true, Bool.and_eq_true, decide_eq_true_eq] at hv2
          refine ⟨hd.2, by dsimp only; omega, by dsimp only; omega, by dsimp only; omega, by dsimp only; omega, fun j hj1 hj2 => ?_⟩
          dsimp only at hj2
          obtain rfl | rfl | rfl : j = 1 ∨ j = 2 ∨ j = 3 := by omega
          all_goals omega
        · exact ⟨hv, by decide, by decide, Nat.le_refl _, by dsimp only; omega, fun j hj1 hj2 => by dsimp only at hj2; omega⟩
      · exact ⟨hv, by decide, by decide, Nat.le_refl _, by dsimp only; omega, fun j hj1 hj2 => by dsimp only at hj2; omega⟩
theorem vrune (r : Int) (h : Utf8.valid r = true) : Lib.validRune r = true := by
  simp only [Utf8.valid, Bool.or_eq_true, Bool.and_eq_true, decide_eq_true_eq] at h
  unfold Lib.validRune
  simp
  omega
set_option maxHeartbeats 4000000 in
theorem irune_err (w : World) :
    Calls Tryd.prog 32 #[.string stp, .int .i32 65533] w fun e w' => e = .returned (.int .i64 (-1)) ∧ Below w.heap.size w w' := by
  go_enter Tryd.func32, Tryd.ntmps32
  go_wp2_with fail
  go_loopg [5, 6] 3 (fun g _ _ wx => ∃ i : Nat, i + g = 3 ∧ wx = w.iter stp i)
  case atStart => exact ⟨0, by omega, rfl⟩
  case round =>
    obtain ⟨i, hig, rfl⟩ := hrel
    obtain rfl | rfl | rfl | rfl : i = 0 ∨ i = 1 ∨ i = 2 ∨ i = 3 := by omega
    · obtain rfl : gk = 3 := by omega
      have hnx := fun ty => run_next_ascii (P := Tryd.prog) w stp 0 ty (by decide) (by decide)
      rw [show ((stp[0]'(by decide)).toNat : Int) = 46 from rfl] at hnx
      go_wp2_with fail
      go_roundg 2
      case measure => omega
      case rel => exact ⟨1, by omega, rfl⟩
    · obtain rfl : gk = 2 := by omega
      have hnx := fun ty => run_next_ascii (P := Tryd.prog) w stp 1 ty (by decide) (by decide)
      rw [show ((stp[1]'(by decide)).toNat : Int) = 33 from rfl] at hnx
      go_wp2_with fail
      go_roundg 1
      case measure => omega
      case rel => exact ⟨2, by omega, rfl⟩
    · obtain rfl : gk = 1 := by omega
      have hnx := fun ty => run_next_ascii (P := Tryd.prog) w stp 2 ty (by decide) (by decide)
      rw [show ((stp[2]'(by decide)).toNat : Int) = 63 from rfl] at hnx
      go_wp2_with fail
      go_roundg 0
      case measure => omega
      case rel => exact ⟨3, by omega, rfl⟩
    · have hnx := fun ty => run_next_end (P := Tryd.prog) w stp 3 ty (by decide)
      go_wp2_with fail
      go_ret
      exact ⟨rfl, (Below.refl _ _).alloc (Nat.le_refl _) _⟩
theorem ib_high1 (c : UInt8) (h : 128 ≤ c.toNat) : Lib.indexByte [63] c = -1 := by
  have : ¬ (63 : UInt8) = c := by intro e; rw [← e] at h; exact absurd h (by decide)
  simp [Lib.indexByte, this]
set_option maxHeartbeats 4000000 in
theorem irune_high (r : Int) (hv : Utf8.valid r = true) (h128 : 128 ≤ r) (hle : r ≤ 1114111) (w : World) :
    Calls Tryd.prog 32 #[.string stp, .int .i32 r] w fun e w' => e = .returned (.int .i64 (-1)) ∧ Below w.heap.size w w' := by
  by_cases he : r = 65533
  · subst he; exact irune_err w
  obtain ⟨f1, f2, f3⟩ := encode_facts r hv h128
  have hvr := vrune r hv
  have hne : (r == 65533) = false := beq_eq_false_iff_ne.2 he
  have hlt : (Utf8.encode r).size - 1 < (Utf8.encode r).size := by omega
  have h3 := f3 hlt
  clear f3 hv he
  have hcv : ∀ W : World, (convert 21 9 (.int .i32 r)).run Tryd.prog W = .ok (.string (Utf8.encode r)) W := fun W => run_convert_int_string W 21 9 .i32 r (by kernel_rfl) Tryd.underlying9
  generalize Utf8.encode r = q at *
  obtain ⟨c, hc⟩ : ∃ c, q[q.size - 1]'hlt = c := ⟨_, rfl⟩
  rw [hc] at h3
  have hcases : q.size = 2 ∨ q.size = 3 ∨ q.size = 4 := by omega
  have hcI : (c.toNat : Int) ≤ 255 := by have := c.toNat_lt; omega
  have hc2 : (128 : Int) ≤ (c.toNat : Int) := by omega
  have hback : ((c.toNat : Int)).toNat.toUInt8 = c := by simp
  rcases hcases with h | h | h
  · have hlt1 : 1 < q.size := by omega
    have hc1 : q[1]'hlt1 = c := by rw [← hc]; congr 1; omega
    clear hc f1 f2 hlt
    go_enter Tryd.func32, Tryd.ntmps32
    go_wp2_with (go_at_call 37; refine (Tryd.utf8_ValidRune r _).mono ?_; rintro e w' ⟨rfl, hw⟩; rw [hvr, hw])
    go_step3
    go_wp2_with fail
    go_loopg [9] 1 (fun gg i wr => i = .int .i64 1 ∧ wr = w)
    case atStart => exact ⟨rfl, rfl⟩
    case round =>
      obtain ⟨rfl, rfl⟩ := hrel
      have hwr : IntKind.i64.wrap 2 = 2 := by decide
      have HIB : Hid (Lib.indexByte (stp.extract 2 3).data.toList c = -1) := by show _ = _; rw [show (stp.extract 2 3).data.toList = [63] by decide]; exact ib_high1 c h3
      have HIX : Hid (∀ W : World, Calls Tryd.prog 36 #[.string (stp.extract 2 3), .int .u8 (c.toNat : Int)] W fun e w' => e = .returned (.int .i64 (-1)) ∧ w' = W) := fun W => (Tryd.strings_IndexByte _ _ W).mono fun e w' h => ⟨by rw [h.1, hback, HIB.out], h.2⟩
      have hne2 : (((stp[1]'(by decide)).toNat : Int) != (c.toNat : Int)) = true := by rw [bne_iff_ne]; show (33 : Int) ≠ _; omega
      go_wp2_with fail
      go_step3
      go_wp2_with fail
      go_quiet (fail)
      go_wp2_with fail
      go_quiet ((go_at_call 36; exact (HIX.out _).mono fun e w' h => ⟨h.1, _, h.2⟩))
      go_wp2_with fail
      simp only [Exit.inBlock, Exit.then, Exit.noGoto_ret]
      go_ret
      exact ⟨rfl, below_drewN (Below.refl _ _) _⟩
  · have hlt1 : 2 < q.size := by omega
    have hc1 : q[2]'hlt1 = c := by rw [← hc]; congr 1; omega
    clear hc f1 f2 hlt
    go_enter Tryd.func32, Tryd.ntmps32
    go_wp2_with (go_at_call 37; refine (Tryd.utf8_ValidRune r _).mono ?_; rintro e w' ⟨rfl, hw⟩; rw [hvr, hw])
    go_step3
    go_wp2_with fail
    go_loopg [9] 1 (fun gg i wr => i = .int .i64 2 ∧ wr = w)
    case atStart => exact ⟨rfl, rfl⟩
    case round =>
      obtain ⟨rfl, rfl⟩ := hrel
      have hwr : IntKind.i64.wrap 3 = 3 := by decide
      have HIB : Hid (Lib.indexByte (stp.extract 3 3).data.toList c = -1) := by show _ = _; rw [show (stp.extract 3 3).data.toList = [] by decide]; rfl
      have HIX : Hid (∀ W : World, Calls Tryd.prog 36 #[.string (stp.extract 3 3), .int .u8 (c.toNat : Int)] W fun e w' => e = .returned (.int .i64 (-1)) ∧ w' = W) := fun W => (Tryd.strings_IndexByte _ _ W).mono fun e w' h => ⟨by rw [h.1, hback, HIB.out], h.2⟩
      have hne2 : (((stp[2]'(by decide)).toNat : Int) != (c.toNat : Int)) = true := by rw [bne_iff_ne]; show (63 : Int) ≠ _; omega
      go_wp2_with fail
      go_step3
      go_wp2_with fail
      go_quiet (fail)
      go_wp2_with fail
      go_quiet ((go_at_call 36; exact (HIX.out _).mono fun e w' h => ⟨h.1, _, h.2⟩))
      go_wp2_with fail
      simp only [Exit.inBlock, Exit.then, Exit.noGoto_ret]
      go_ret
      exact ⟨rfl, below_drewN (Below.refl _ _) _⟩
  · have hlt1 : 3 < q.size := by omega
    have hc1 : q[3]'hlt1 = c := by rw [← hc]; congr 1; omega
    clear hc f1 f2 hlt
    go_enter Tryd.func32, Tryd.ntmps32
    go_wp2_with (go_at_call 37; refine (Tryd.utf8_ValidRune r _).mono ?_; rintro e w' ⟨rfl, hw⟩; rw [hvr, hw])
    go_step3
    go_wp2_with fail
    go_loopg [9] 1 (fun gg i wr => i = .int .i64 3 ∧ wr = w)
    case atStart => exact ⟨rfl, rfl⟩
    case round =>
      obtain ⟨rfl, rfl⟩ := hrel
      go_wp2_with fail
      rw [Exit.noGoto_ret]
      go_ret
      exact ⟨rfl, Below.refl _ _⟩
theorem stp_size : stp.size = 3 := rfl
theorem stp_list : stp.data.toList = [46, 33, 63] := rfl
theorem stp_high (b : UInt8) (h : 128 ≤ b.toNat) : (stp.data.toList).contains b = false := by
  rw [stp_list]
  simp only [List.contains_cons, List.contains_nil, Bool.or_false, Bool.or_eq_false_iff, beq_eq_false_iff_ne]
  refine ⟨?_, ?_, ?_⟩ <;> (intro e; rw [e] at h; exact absurd h (by decide))
set_option maxHeartbeats 8000000 in
theorem iany_short (s : ByteArray) (h8 : s.size ≤ 8) (w : World) :
    Calls Tryd.prog 31 #[.string s, .string stp] w fun e w' => e = .returned (.int .i64 (Lib.indexAny s.data.toList stp.data.toList)) ∧ Below w.heap.size w w' := by
  have h8z : decide ((8 : Int) < (s.size : Int)) = false := decide_eq_false (by omega)
  go_enter Tryd.func31, Tryd.ntmps31
  go_wp2_with (go_at_call 33; refine (Tryd.strings_shouldUseASCIISet _ _).mono ?_; rintro e w' ⟨rfl, hw⟩; rw [hw, h8z])
  go_loopg [9, 10] s.size (fun g _ _ wx => ∃ i : Nat, s.size - i ≤ g ∧ i ≤ s.size ∧ Hid (wx.heap[w.heap.size]? = some (.stringIter s i)) ∧ Hid (Below w.heap.size w wx) ∧ Hid (Lib.NoAny s.data.toList stp.data.toList i))
  case atStart => exact ⟨0, by omega, Nat.zero_le _, World.iter_heap w s 0, (Below.refl _ _).alloc (Nat.le_refl _) _, Lib.NoAny.zero _ _⟩
  case round =>
    obtain ⟨i, hig, his, HI, HB, HN⟩ := hrel
    by_cases hlt : i < s.size
    · have hnx : ∀ ty, (Instr.next (.pointer (some ⟨w.heap.size, 0, none⟩)) true ty).run Tryd.prog wr = _ := fun ty => Lib.run_next_any_at wr w.heap.size s i ty HI.out hlt
      have HB2 : Hid (∀ j, Below w.heap.size w (wr.iterAt w.heap.size s j)) := fun j => Lib.below_iterAt HB.out (Nat.le_refl _) s j
      have HI2 : Hid (∀ j, (wr.iterAt w.heap.size s j).heap[w.heap.size]? = some (.stringIter s j)) := fun j => Lib.iterAt_heap wr w.heap.size s i j HI.out
      have HSZ : Hid (w.heap.size < wr.heap.size) := (Array.getElem?_eq_some_iff.1 HI.out).1
      obtain ⟨x, hx⟩ : ∃ x : UInt8, s[i]'hlt = x := ⟨_, rfl⟩
      have HX : Hid (s.data.toList[i]? = some x) := by show _ = _; rw [← hx]; exact Lib.data_getElem? s i hlt
      by_cases hx128 : x.toNat < 128
      · have hdec : Utf8.decode s i = (x.toNat, 1) := by rw [← hx]; exact decode_ascii s i hlt (by rw [hx]; exact hx128)
        rw [hdec] at hnx
        simp only at hnx
        have hback : ((x.toNat : Int)).toNat.toUInt8 = x := by simp
        have hcon := Lib.contains_iff_indexByte stp.data.toList x
        have HB3 := Lib.hid (HB2.out (i + 1))
        have HI3 := Lib.hid (HI2.out (i + 1))
        generalize wr.iterAt w.heap.size s (i + 1) = wr2 at *
        clear HB2 HI2
        cases hin : stp.data.toList.contains x
        · rw [hin] at hcon
          have hge : ¬ ((0 : Int) ≤ Lib.indexByte stp.data.toList x) := of_decide_eq_false hcon.symm
          clear hcon
          have HIR : Hid (∀ W : World, Calls Tryd.prog 32 #[.string stp, .int .i32 (x.toNat : Int)] W fun e w' => e = .returned (.int .i64 (Lib.indexByte stp.data.toList x)) ∧ W = w') := fun W => (Tryd.strings_IndexRune_ascii stp (x.toNat : Int) W (by omega) (by omega)).mono fun e w' h => ⟨by rw [h.1, hback], h.2.symm⟩
          clear hback
          generalize Lib.indexByte stp.data.toList x = z at *
          go_wp2_with (go_at_call 32; refine (HIR.out _).mono ?_; rintro e w' ⟨rfl, rfl⟩)
          go_roundg (s.size - (i + 1))
          case measure => omega
          case rel => exact ⟨i + 1, by omega, by omega, HI3, HB3, HN.out.succ HX.out hin⟩
        · rw [hin] at hcon
          have hge : (0 : Int) ≤ Lib.indexByte stp.data.toList x := of_decide_eq_true hcon.symm
          clear hcon
          have HIR : Hid (∀ W : World, Calls Tryd.prog 32 #[.string stp, .int .i32 (x.toNat : Int)] W fun e w' => e = .returned (.int .i64 (Lib.indexByte stp.data.toList x)) ∧ W = w') := fun W => (Tryd.strings_IndexRune_ascii stp (x.toNat : Int) W (by omega) (by omega)).mono fun e w' h => ⟨by rw [h.1, hback], h.2.symm⟩
          clear hback
          have HA : Hid (Lib.indexAny s.data.toList stp.data.toList = i) := Lib.indexAny_hit HN.out HX.out hin
          generalize Lib.indexByte stp.data.toList x = z at *
          go_wp2_with (go_at_call 32; refine (HIR.out _).mono ?_; rintro e w' ⟨rfl, rfl⟩)
          go_ret
          exact ⟨by rw [HA.out]; rfl, HB3.out⟩
      · obtain ⟨d1, d2, d3, d4, d5, d6⟩ := dec_valid s i hlt (by rw [hx]; omega)
        have HNO : Hid (Lib.NoAny s.data.toList stp.data.toList (i + (Utf8.decode s i).2)) := fun j b hj hb => by
          rcases Nat.lt_or_ge j i with h | h
          · exact HN.out j b h hb
          · obtain rfl | h' : j = i ∨ i < j := by omega
            · rw [HX.out] at hb
              have hb := Option.some.inj hb
              exact stp_high b (by rw [← hb]; omega)
            · have hjs : j < s.size := by omega
              have := d6 (j - i) (by omega) (by omega)
              rw [show i + (j - i) = j by omega] at this
              rw [Lib.data_getElem? s j hjs] at hb
              have hb := Option.some.inj hb
              refine stp_high b ?_
              rw [← hb, ← get_at s j hjs]
              exact this
        have HIR := Lib.hid (fun W : World => irune_high ((Utf8.decode s i).1 : Int) d1 (by omega) (by omega) W)
        clear d6 d1 hx
        generalize Utf8.decode s i = dd at *
        obtain ⟨r, n⟩ := dd
        simp only at hnx d2 d3 d4 d5 HNO HIR
        have HB3 := Lib.hid (HB2.out (i + n))
        have HI3 := Lib.hid (HI2.out (i + n))
        have HS3 : Hid (w.heap.size < (wr.iterAt w.heap.size s (i + n)).heap.size) := by show _ < _; rw [Lib.iterAt_size]; exact HSZ.out
        generalize wr.iterAt w.heap.size s (i + n) = wr2 at *
        clear HB2 HI2
        go_wp2_with (go_at_call 32; refine (HIR.out _).mono ?_; rintro e w2 ⟨rfl, hb2⟩)
        go_roundg (s.size - (i + n))
        case measure => omega
        case rel => exact ⟨i + n, by omega, by omega, (hb2.block _ HS3.out).trans HI3.out, HB3.out.trans (hb2.mono HB3.out.size), HNO⟩
    · obtain rfl : i = s.size := by omega
      have hnx : ∀ ty, (Instr.next (.pointer (some ⟨w.heap.size, 0, none⟩)) true ty).run Tryd.prog wr = _ := fun ty => Lib.run_next_end_at wr w.heap.size s s.size ty HI.out (by omega)
      have HA : Hid (Lib.indexAny s.data.toList stp.data.toList = -1) := Lib.indexAny_none (by rw [← Lib.size_eq]; exact HN.out)
      go_wp2_with fail
      go_ret
      exact ⟨by rw [HA.out]; rfl, HB.out⟩
theorem set_zero (w : World) : (zeroValue 59).run Tryd.prog w = .ok (.agg (Array.replicate 256 (.bool false))) w := by kernel_rfl
theorem iany_any (s : ByteArray) (hs : s.size ≤ 100000000) (w : World) :
    Calls Tryd.prog 31 #[.string s, .string stp] w fun e w' => e = .returned (.int .i64 (Lib.indexAny s.data.toList stp.data.toList)) ∧ Below w.heap.size w w' := by
  by_cases h8 : s.size ≤ 8
  · exact iany_short s h8 w
  · refine (Tryd.strings_IndexAny_long set_zero s stp w (by decide) (by omega) (by omega) (by decide) ?_).mono fun e w' ⟨h1, h2⟩ => ⟨h1, ?_⟩
    · intro j b hb
      rw [stp_list] at hb
      have := List.mem_of_getElem? hb
      simp only [List.mem_cons, List.not_mem_nil, or_false] at this
      rcases this with rfl | rfl | rfl <;> decide
    · rw [h2]
      exact ((Below.refl _ _).alloc (Nat.le_refl _) _).alloc (by simp) _
theorem idx_none (l : B8) (h : Lib.indexAny l [46, 33, 63] = -1) : ∀ (i : Nat) (x : UInt8), l[i]? = some x → ([46, 33, 63] : B8).contains x = false := by
  intro i
  induction i using Nat.strongRecOn with
  | _ i ih =>
    intro x hx
    cases hc : ([46, 33, 63] : B8).contains x
    · rfl
    · have h2 := Lib.indexAny_hit (s := l) (chars := [46, 33, 63]) (i := i) (fun j b hj hb => ih j hj b hb) hx hc
      rw [h] at h2
      omega
theorem any_stop (l : B8) : decide (0 ≤ Lib.indexAny l [46, 33, 63]) = stopB l := by
  by_cases h : ∃ (i : Nat) (x : UInt8), l[i]? = some x ∧ ([46, 33, 63] : B8).contains x = true
  · obtain ⟨i, x, hi, hx⟩ := h
    have h1 : stopB l = true := by
      unfold stopB
      rw [List.any_eq_true]
      refine ⟨x, List.mem_of_getElem? hi, ?_⟩
      simpa [or_assoc] using hx
    rw [h1]
    have h2 : Lib.indexAny l [46, 33, 63] ≠ -1 := by
      intro he
      exact absurd hx (by rw [(idx_none l he i x hi)]; decide)
    have h3 := Lib.indexAny_ge [46, 33, 63] l
    exact decide_eq_true (by omega)
  · have h1 : stopB l = false := by
      unfold stopB
      rw [List.any_eq_false]
      intro x hx hc
      obtain ⟨i, hi⟩ := List.getElem?_of_mem hx
      exact h ⟨i, x, hi, by simpa [or_assoc] using hc⟩
    rw [h1, Lib.indexAny_none (fun j b _ hb => by
      cases hc : ([46, 33, 63] : B8).contains b
      · rfl
      · exact absurd ⟨j, b, hb, hc⟩ h)]
    rfl
set_option maxHeartbeats 4000000 in
theorem cany_any (l : B8) (hl : l.length ≤ 100000000) (w : World) :
    Calls Tryd.prog 28 #[.string (strOf l), .string stp] w fun e w' => e = .returned (.bool (stopB l)) ∧ Below w.heap.size w w' := by
  have HI := Lib.hid (iany_any (strOf l) (by rw [size8]; exact hl) w)
  rw [str_data, stp_list] at HI
  have HS := Lib.hid (any_stop l)
  go_enter Tryd.func28, Tryd.ntmps28
  go_wp2_with fail
  refine HI.out.mono ?_
  rintro e w2 ⟨rfl, hb⟩
  go_wp2_with fail
  go_ret
  exact ⟨by rw [← HS.out]; rfl, hb⟩
end Go.Proofs.YtpgfiecfndkheaaDoor
