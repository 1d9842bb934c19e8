/- XmlRefs answers true: up to the references. -/
import Derived.Test.YtbehfhdkdekjfaaDoorXmR2
import Derived.Test.YtbehfhdkdekjfaaDoorXmFd
import Derived.Deep.DeepCutAuto
namespace Go.Proofs.YtbehfhdkdekjfaaDoor
open Go.RowKit
set_option maxRecDepth 100000

theorem NTab.keep {w w' : World} (h : NTab w) (h8 : 8 ≤ w.heap.size) (hb : Below w.heap.size w w') : NTab w' := by
  obtain ⟨h1, h2⟩ := h
  refine ⟨?_, (hb.cell (p := ⟨4, 15, none⟩) (by show 4 < _; omega)).trans h2⟩
  unfold Lib.TabIs World.var? at h1 ⊢
  have hg : Tryd.prog.globalNamed "internal/strconv.uint64pow10" = some 2 := by kernel_rfl
  rw [hg] at h1 ⊢
  show (match w'.heap[2]? with | some (.cells cs _ _) => some cs | _ => none) = _
  rw [hb.block 2 (by omega)]
  exact h1
theorem and_7 (b : Int) : ∃ n : Nat, bits .and .i64 b 7 = (n : Int) ∧ n ≤ 7 := by
  have h : (BitVec.ofInt 64 b &&& BitVec.ofInt 64 7).toNat ≤ 7 := by
    rw [BitVec.toNat_and]
    exact Nat.le_trans Nat.and_le_right (by decide)
  refine ⟨(BitVec.ofInt 64 b &&& BitVec.ofInt 64 7).toNat, ?_, h⟩
  show IntKind.i64.wrap ((BitVec.ofInt 64 b &&& BitVec.ofInt 64 7).toNat : Int) = _
  rw [IntKind.wrap_i64]
  omega
/-- Bytes of a row, the first k of them made great. -/
def UpRow (w : World) (g k : Nat) (l : L8) : Prop := ∀ j, j < l.length → w.cell? ⟨g, j, none⟩ = some (.int .u8 (at8 (if j < k then l.map upC else l) j)) ∧ w.frozen? ⟨g, j, none⟩ = false
theorem at8_up (l : L8) (j : Nat) (h : j < l.length) : at8 (l.map upC) j = if 97 ≤ at8 l j then at8 l j - 32 else at8 l j := by
  rw [at8_eq _ _ (by rw [List.length_map]; exact h), at8_eq _ _ h, List.getElem_map]
  unfold upC
  by_cases hh : 97 ≤ l[j].toNat
  · rw [if_pos hh, if_pos (by omega), UInt8.toNat_ofNat']
    have := l[j].toNat_lt
    omega
  · rw [if_neg hh, if_neg (by omega)]
theorem UpRow.same {w : World} {g k : Nat} {l : L8} (h : UpRow w g k l) (hk : k < l.length) (hs : ¬ 97 ≤ at8 l k) : UpRow w g (k + 1) l := fun j hj => by
  refine ⟨?_, (h j hj).2⟩
  rw [(h j hj).1]
  by_cases hjk : j = k
  · subst hjk
    rw [if_neg (by omega), if_pos (by omega), at8_up l j hj, if_neg hs]
  · by_cases h2 : j < k
    · rw [if_pos h2, if_pos (by omega)]
    · rw [if_neg h2, if_neg (by omega)]
theorem UpRow.step {w : World} {g k : Nat} {l : L8} (h : UpRow w g k l) (hk : k < l.length) (hs : 97 ≤ at8 l k) : UpRow (w.setCell ⟨g, k, none⟩ (.int .u8 (at8 l k - 32))) g (k + 1) l := fun j hj => by
  refine ⟨?_, by simpa using (h j hj).2⟩
  by_cases hjk : j = k
  · subst hjk
    rw [if_pos (by omega), at8_up l j hj, if_pos hs]
    exact World.cell?_setCell_same _ _ _ (by rw [(h j hj).1])
  · rw [World.cell?_setCell_other _ _ _ _ (by intro e; injection e with _ e; exact hjk e.symm), (h j hj).1]
    by_cases h2 : j < k
    · rw [if_pos h2, if_pos (by omega)]
    · rw [if_neg h2, if_neg (by omega)]
theorem hexM_len (up : Bool) (n : Nat) : (hexM up n).length ≤ 8 := by
  have := (hexD_len 7 n).2
  unfold hexM
  split
  · rw [List.length_map]; exact this
  · exact this
theorem str_cat8 (l m : L8) : strOf l ++ strOf m = strOf (l ++ m) := by
  apply ByteArray.ext
  apply Array.toList_inj.1
  simp [strOf]
set_option maxHeartbeats 8000000 in
theorem refs_walk (n : Nat) (hn : n < 4294967296) (a : Int) (up : Bool) (w : World) (hE : Env w) (hN : NTab w) :
    Calls Tryd.prog 4 #[.int .u32 (n : Int), .int .i64 a, .bool up] w fun e w' => e = .returned (.bool true) ∧ Below w.heap.size w w' := by
  have HE := Lib.hid hE
  have HNT := Lib.hid hN
  have h8 : 8 ≤ w.heap.size := hE.2.2.2.2
  have HH := Lib.hid (head_any w hE)
  clear hE hN
  obtain ⟨m, hm, hm7⟩ := and_7 a
  have HF16 := Lib.hid (fun W hW => fmt16 n hn W hW)
  have HF10 := Lib.hid (fun W hW => fmt10 n hn W hW)
  have hwn : IntKind.u64.wrap (n : Int) = (n : Int) := by rw [IntKind.wrap_u64]; omega
  go_enter Tryd.func4, Tryd.ntmps4
  go_wp2_with fail
  (with_reducible refine HH.out.mono ?_)
  rintro e w1 ⟨rfl, b1⟩
  have B1 := Lib.hid b1
  have NT1 := Lib.hid (HNT.out.keep h8 b1)
  have h81 : 8 ≤ w1.heap.size := Nat.le_trans h8 b1.size
  clear b1
  go_wp2_with fail
  go_loopg [7, 8] m (fun gg zs ix wr => ∃ k : Nat, zs = .string (strOf (List.replicate k 48)) ∧ ix = .int .i64 k ∧ k ≤ m ∧ m - k ≤ gg ∧ w1 = wr)
  case atStart => exact ⟨0, rfl, rfl, Nat.zero_le _, by omega, rfl⟩
  case round =>
    obtain ⟨k, rfl, rfl, hk, hg, rfl⟩ := hrel
    by_cases hlt : k < m
    · have hltI : (k : Int) < (m : Int) := by omega
      have hcat : strOf (List.replicate k 48) ++ (⟨#[48]⟩ : ByteArray) = strOf (List.replicate (k + 1) 48) := by rw [List.replicate_succ']; exact add8r _ [48]
      have hss : ¬ 9223372036854775807 < (strOf (List.replicate k 48)).size + (⟨#[48]⟩ : ByteArray).size := by rw [size8, List.length_replicate]; show ¬ _ < _ + 1; omega
      go_wp2_with fail
      go_roundg (m - (k + 1))
      case measure => omega
      case rel => exact ⟨k + 1, rfl, by go_num, by omega, Nat.le_refl _, rfl⟩
    · obtain rfl : k = m := by omega
      go_wp2_with fail
      clear hm
      (with_reducible refine (HF16.out w1 NT1.out).mono ?_)
      rintro e w2 ⟨rfl, b2⟩
      have B2 := Lib.hid (B1.out.trans (b2.mono B1.out.size))
      have NT2 := Lib.hid (NT1.out.keep h81 b2)
      have h82 : 8 ≤ w2.heap.size := Nat.le_trans h81 b2.size
      clear b2
      go_upto_if 33 with (fail)
      go_cut [9] (fun s wx => s = .string (strOf (hexM up n)) ∧ Hid (Below w2.heap.size w2 wx))
      case first =>
        cases up
        · go_wp2_with fail
          go_meet
          case rel => exact ⟨rfl, Below.refl _ _⟩
        · obtain ⟨l, hl⟩ : ∃ l, l = hexD 7 n := ⟨_, rfl⟩
          have HL : Hid (strOf (l.map upC) = strOf (hexM true n)) := by show _ = _; rw [hl]; rfl
          have hl8 := (hexD_len 7 n).2
          rw [← hl] at hl8 ⊢
          clear hl
          have hcv := Lib.run_convert_string_bytes (P := Tryd.prog) w2 9 37 5 (strOf l) (u := .string) Tryd.underlying9 Tryd.underlying37 Tryd.underlying5
          have hB : UpRow (Lib.bytesWorld w2 5 (strOf l)) w2.heap.size 0 l := fun j hj => by
            refine ⟨?_, ?_⟩
            · rw [Lib.bytesWorld_cell w2 5 (strOf l) j (by rw [size8]; exact hj), str_data, List.getD_eq_getElem?_getD, if_neg (by omega)]
              rfl
            · have hh := Lib.bytesWorld_at_new w2 5 (strOf l)
              have hsz : l.length ≤ (Lib.bytesCells w2 5 (strOf l)).size := by
                unfold Lib.bytesCells
                simp [strOf]
              simp only [World.frozen?, hh]
              simp
              omega
          have HBel : Hid (Below w2.heap.size w2 (Lib.bytesWorld w2 5 (strOf l))) := ⟨rfl, rfl, rfl, by rw [Lib.bytesWorld_size]; omega, fun k hk => Lib.bytesWorld_at_old w2 _ _ k hk⟩
          have hszl := size8 l
          rw [hszl] at hcv
          have hcap : l.length ≤ grownCap w2 l.length 0 5 := grownCap_ge w2 l.length 0 5
          have hcap2 : grownCap w2 l.length 0 5 ≤ maxLen := grownCap_le_maxLen w2 l.length 0 5 (by simp only [maxLen]; omega)
          unfold maxLen at hcap2
          generalize grownCap w2 l.length 0 5 = cp at *
          obtain ⟨W1, hW1⟩ : ∃ W1, W1 = Lib.bytesWorld w2 5 (strOf l) := ⟨_, rfl⟩
          rw [← hW1] at hcv hB HBel
          have HUP := Lib.hid hB
          clear hW1 hB
          obtain ⟨N, hNl⟩ : ∃ N, N = l.length := ⟨_, rfl⟩
          have HN := Lib.hid hNl
          rw [← hNl] at hcv hcap hl8 hszl
          clear hNl
          go_wp2_with fail
          clear hcv
          go_loopg [38] N (fun gg ix wr => ∃ k : Nat, ix = .int .i64 k ∧ k ≤ N ∧ N - k ≤ gg ∧ Hid (UpRow wr w2.heap.size k l) ∧ Hid (Below w2.heap.size w2 wr))
          case atStart => exact ⟨0, rfl, Nat.zero_le _, by omega, HUP, HBel⟩
          case round =>
            obtain ⟨k, rfl, hk, hg2, HU, HB2⟩ := hrel
            by_cases hlt2 : k < N
            · have hkl : k < l.length := by rw [← HN.out]; exact hlt2
              have hkI : (k : Int) < (N : Int) := by omega
              obtain ⟨c1, f1⟩ := HU.out k hkl
              rw [if_neg (by omega)] at c1
              have hr1 := at8_ge l k
              have hr2 := at8_le l k
              by_cases h97 : 97 ≤ at8 l k
              · have HU2 := Lib.hid (HU.out.step hkl h97)
                have HB3 := Lib.hid (HB2.out.setCell (p := ⟨w2.heap.size, k, none⟩) (Nat.le_refl _) (.int .u8 (at8 l k - 32)))
                generalize at8 l k = x at *
                go_wp2_with fail
                go_roundg (N - (k + 1))
                case measure => omega
                case rel => exact ⟨k + 1, by go_num, by omega, Nat.le_refl _, HU2, HB3⟩
              · have HU2 := Lib.hid (HU.out.same hkl h97)
                generalize at8 l k = x at *
                go_wp2_with fail
                go_roundg (N - (k + 1))
                case measure => omega
                case rel => exact ⟨k + 1, by go_num, by omega, Nat.le_refl _, HU2, HB2⟩
            · obtain rfl : k = N := by omega
              have hbs : BS wr (w2.heap.size + 1) (some ⟨w2.heap.size, 0, none⟩) (l.map upC) := fun _ => ⟨w2.heap.size, 0, rfl, by omega, fun j hj => by
                rw [List.length_map] at hj
                have := (HU.out j hj).1
                rw [if_pos (by rw [HN.out]; exact hj)] at this
                rw [Nat.zero_add]
                exact this⟩
              have hcv2 : (convert 37 9 (.slice (some ⟨w2.heap.size, 0, none⟩) k cp)).run Tryd.prog wr = .ok (.string (strOf (hexM true n))) wr := by
                rw [← HL.out]
                exact hbs.conv k cp (by rw [List.length_map]; exact HN.out)
              clear hbs
              go_wp2_with fail
              go_meet
              case rel => exact ⟨rfl, HB2⟩
      case rest =>
        obtain ⟨rfl, HBc⟩ := hcut
        have NTc := Lib.hid (NT2.out.keep h82 HBc.out)
        have Bc := Lib.hid (B2.out.trans (HBc.out.mono B2.out.size))
        have h8c : 8 ≤ wc.heap.size := Nat.le_trans h82 HBc.out.size
        go_upto_region 18 with (fail)
        go_cut [12] (fun s wx => s = .bool (okSign n) ∧ wc = wx)
        case first =>
          have HOK := Lib.hid (ok_law n)
          have key : ∀ c : Nat, ((n : Int) == (c : Int)) = (n == c) := fun c => by
            by_cases h : n = c
            · subst h; simp
            · have h1 : (n == c) = false := by simp [h]
              rw [h1]; exact beq_eq_false_iff_ne.2 (by omega)
          have k9 : ((n : Int) == 9) = (n == 9) := key 9
          have k10 : ((n : Int) == 10) = (n == 10) := key 10
          have k13 : ((n : Int) == 13) = (n == 13) := key 13
          have j4 : ((n : Int) != 65534) = (n != 65534) := by unfold bne; rw [show ((n : Int) == 65534) = (n == 65534) from key 65534]
          have j5 : ((n : Int) != 65535) = (n != 65535) := by unfold bne; rw [show ((n : Int) == 65535) = (n == 65535) from key 65535]
          have t1 : decide ((32 : Int) ≤ (n : Int)) = decide (32 ≤ n) := by by_cases h : 32 ≤ n; (rw [decide_eq_true h]; exact decide_eq_true (by omega)); (rw [decide_eq_false h]; exact decide_eq_false (by omega))
          have t2 : decide ((n : Int) < 55296) = decide (n < 55296) := by by_cases h : n < 55296; (rw [decide_eq_true h]; exact decide_eq_true (by omega)); (rw [decide_eq_false h]; exact decide_eq_false (by omega))
          have t3 : decide ((57344 : Int) ≤ (n : Int)) = decide (57344 ≤ n) := by by_cases h : 57344 ≤ n; (rw [decide_eq_true h]; exact decide_eq_true (by omega)); (rw [decide_eq_false h]; exact decide_eq_false (by omega))
          have t4 : decide ((n : Int) ≤ 1114111) = decide (n ≤ 1114111) := by by_cases h : n ≤ 1114111; (rw [decide_eq_true h]; exact decide_eq_true (by omega)); (rw [decide_eq_false h]; exact decide_eq_false (by omega))
          clear key
          generalize (n == 9) = a9 at *
          generalize (n == 10) = a10 at *
          generalize (n == 13) = a13 at *
          generalize (decide (32 ≤ n)) = p1 at *
          generalize (decide (n < 55296)) = p2 at *
          generalize (decide (57344 ≤ n)) = p3 at *
          generalize (decide (n ≤ 1114111)) = p4 at *
          generalize (n != 65534) = p5 at *
          generalize (n != 65535) = p6 at *
          cases a9
          · cases a10
            · cases a13
              · cases p1
                · cases p3
                  · go_wp2_with fail
                    go_meet
                    case rel => exact ⟨by rw [HOK.out]; simp, rfl⟩
                  · cases p4
                    · go_wp2_with fail
                      go_meet
                      case rel => exact ⟨by rw [HOK.out]; simp, rfl⟩
                    · cases p5
                      · go_wp2_with fail
                        go_meet
                        case rel => exact ⟨by rw [HOK.out]; simp, rfl⟩
                      · go_wp2_with fail
                        go_meet
                        case rel => exact ⟨by rw [HOK.out]; simp, rfl⟩
                · cases p2
                  · cases p3
                    · go_wp2_with fail
                      go_meet
                      case rel => exact ⟨by rw [HOK.out]; simp, rfl⟩
                    · cases p4
                      · go_wp2_with fail
                        go_meet
                        case rel => exact ⟨by rw [HOK.out]; simp, rfl⟩
                      · cases p5
                        · go_wp2_with fail
                          go_meet
                          case rel => exact ⟨by rw [HOK.out]; simp, rfl⟩
                        · go_wp2_with fail
                          go_meet
                          case rel => exact ⟨by rw [HOK.out]; simp, rfl⟩
                  · go_wp2_with fail
                    go_meet
                    case rel => exact ⟨by rw [HOK.out]; simp, rfl⟩
              · go_wp2_with fail
                go_meet
                case rel => exact ⟨by rw [HOK.out]; simp, rfl⟩
            · go_wp2_with fail
              go_meet
              case rel => exact ⟨by rw [HOK.out]; simp, rfl⟩
          · go_wp2_with fail
            go_meet
            case rel => exact ⟨by rw [HOK.out]; simp, rfl⟩
        case rest =>
          obtain ⟨rfl, rfl⟩ := hcut
          have hk7 : k ≤ 7 := hm7
          have HD10 := Lib.hid (RB.dec n k hn hk7)
          have HD16 := Lib.hid (RB.hex up n k hn hk7)
          have hdl := (dec_len 9 n (by omega)).2
          have hxl := hexM_len up n
          obtain ⟨zs, hzs⟩ : ∃ zs, zs = List.replicate k (48 : UInt8) := ⟨_, rfl⟩
          have hzl : zs.length = k := by rw [hzs, List.length_replicate]
          rw [← hzs] at HD10 HD16 ⊢
          obtain ⟨dc, hdc⟩ : ∃ dc, dc = Lib.decDigits n := ⟨_, rfl⟩
          have HDC := Lib.hid (HF10.out wc NTc.out)
          rw [← hdc] at HD10 hdl HDC
          obtain ⟨hx, hhx⟩ : ∃ hx, hx = hexM up n := ⟨_, rfl⟩
          rw [← hhx] at HD16 hxl ⊢
          clear hzs hdc hhx
          obtain ⟨rb1, hrb1⟩ : ∃ rb, rb = [35] ++ ((zs ++ dc) ++ [59]) := ⟨_, rfl⟩
          obtain ⟨rb2, hrb2⟩ : ∃ rb, rb = [35, 120] ++ ((zs ++ hx) ++ [59]) := ⟨_, rfl⟩
          have e1 : (⟨#[38, 35]⟩ : ByteArray) ++ strOf zs = strOf (38 :: 35 :: zs) := add8 [38, 35] zs
          have e2 : strOf (38 :: 35 :: zs) ++ strOf dc = strOf (38 :: 35 :: (zs ++ dc)) := str_cat8 _ _
          have e3 : strOf (38 :: 35 :: (zs ++ dc)) ++ (⟨#[59]⟩ : ByteArray) = strOf (38 :: rb1) := by rw [hrb1]; exact add8r (38 :: 35 :: (zs ++ dc)) [59]
          have f1 : (⟨#[38, 35, 120]⟩ : ByteArray) ++ strOf zs = strOf (38 :: 35 :: 120 :: zs) := add8 [38, 35, 120] zs
          have f2 : strOf (38 :: 35 :: 120 :: zs) ++ strOf hx = strOf (38 :: 35 :: 120 :: (zs ++ hx)) := str_cat8 _ _
          have f3 : strOf (38 :: 35 :: 120 :: (zs ++ hx)) ++ (⟨#[59]⟩ : ByteArray) = strOf (38 :: rb2) := by rw [hrb2]; exact add8r (38 :: 35 :: 120 :: (zs ++ hx)) [59]
          have q1 : ¬ 9223372036854775807 < (⟨#[38, 35]⟩ : ByteArray).size + (strOf zs).size := by rw [size8]; show ¬ _ < 2 + _; omega
          have q2 : ¬ 9223372036854775807 < (strOf (38 :: 35 :: zs)).size + (strOf dc).size := by rw [size8, size8]; simp only [List.length_cons]; omega
          have q3 : ¬ 9223372036854775807 < (strOf (38 :: 35 :: (zs ++ dc))).size + 1 := by rw [size8]; simp only [List.length_cons, List.length_append]; omega
          have r1 : ¬ 9223372036854775807 < (⟨#[38, 35, 120]⟩ : ByteArray).size + (strOf zs).size := by rw [size8]; show ¬ _ < 3 + _; omega
          have r2 : ¬ 9223372036854775807 < (strOf (38 :: 35 :: 120 :: zs)).size + (strOf hx).size := by rw [size8, size8]; simp only [List.length_cons]; omega
          have r3 : ¬ 9223372036854775807 < (strOf (38 :: 35 :: 120 :: (zs ++ hx))).size + 1 := by rw [size8]; simp only [List.length_cons, List.length_append]; omega
          rw [← hrb1] at HD10
          rw [← hrb2] at HD16
          clear hdl hxl hzl hrb1 hrb2
          go_wp2_with fail
          (with_reducible refine HDC.out.mono ?_)
          rintro e w3 ⟨rfl, b3⟩
          have B3 := Lib.hid (Bc.out.trans (b3.mono Bc.out.size))
          clear b3
          go_wp2_with fail
          obtain ⟨W4, hW4⟩ : ∃ W, W = w3.alloc (.cells #[.string (strOf (38 :: rb1)), .string (strOf (38 :: rb2))] 9) := ⟨_, rfl⟩
          rw [← hW4]
          have B4 : Hid (Below w.heap.size w W4) := by
            show Below _ _ _
            rw [hW4]
            exact B3.out.alloc B3.out.size _
          have hc0 := new_cells w3 #[.string (strOf (38 :: rb1)), .string (strOf (38 :: rb2))] 9 (0, 0) 0 _ rfl
          have hc1 := new_cells w3 #[.string (strOf (38 :: rb1)), .string (strOf (38 :: rb2))] 9 (0, 0) 1 _ rfl
          rw [add_addr, ← hW4] at hc0 hc1
          have hH3 : w3.heap.size < W4.heap.size := by rw [hW4]; simp
          have HRB : Hid (∀ j, j < 2 → ∃ rb, RB n rb ∧ W4.cell? ⟨w3.heap.size, j, none⟩ = some (.string (strOf (38 :: rb)))) := fun j hj => by
            obtain rfl | rfl : j = 0 ∨ j = 1 := by omega
            · exact ⟨rb1, HD10.out, hc0⟩
            · exact ⟨rb2, HD16.out, hc1⟩
          clear hW4 hc0 hc1 e1 e2 e3 f1 f2 f3 q1 q2 q3 r1 r2 r3 HD10 HD16 B3 HDC
          generalize w3.heap.size = H3 at *
          obtain ⟨q, hq⟩ : ∃ q, q = okSign n := ⟨_, rfl⟩
          rw [← hq]
          have HQ := Lib.hid hq
          clear hq
          go_loopg [103] 2 (fun gg ix wr => ∃ j : Nat, ix = .int .i64 j ∧ j ≤ 2 ∧ 2 - j ≤ gg ∧ Hid (Below W4.heap.size W4 wr))
          case atStart => exact ⟨0, rfl, Nat.zero_le _, by omega, Below.refl _ _⟩
          case round =>
            obtain ⟨j, rfl, hj, hgj, HBj⟩ := hrel
            by_cases hj2 : j < 2
            · obtain ⟨rb, hrb, hcell⟩ := HRB.out j hj2
              have hce : wr.cell? ⟨H3, j, none⟩ = some (.string (strOf (38 :: rb))) := (HBj.out.cell (p := ⟨H3, j, none⟩) hH3).trans hcell
              have hjI : (j : Int) < 2 := by omega
              have HT1 := Lib.hid hrb.text
              have HT2 := Lib.hid hrb.attr
              have hlr := hrb.len
              have g1 : (⟨#[60, 97, 62]⟩ : ByteArray) ++ strOf (38 :: rb) = strOf (60 :: 97 :: 62 :: 38 :: rb) := add8 [60, 97, 62] (38 :: rb)
              have g2 : strOf (60 :: 97 :: 62 :: 38 :: rb) ++ (⟨#[60, 47, 97, 62]⟩ : ByteArray) = strOf (60 :: 97 :: 62 :: 38 :: (rb ++ [60, 47, 97, 62])) := add8r (60 :: 97 :: 62 :: 38 :: rb) [60, 47, 97, 62]
              have g3 : (⟨#[60, 97, 32, 98, 61, 34]⟩ : ByteArray) ++ strOf (38 :: rb) = strOf (60 :: 97 :: 32 :: 98 :: 61 :: 34 :: 38 :: rb) := add8 [60, 97, 32, 98, 61, 34] (38 :: rb)
              have g4 : strOf (60 :: 97 :: 32 :: 98 :: 61 :: 34 :: 38 :: rb) ++ (⟨#[34, 47, 62]⟩ : ByteArray) = strOf (60 :: 97 :: 32 :: 98 :: 61 :: 34 :: 38 :: (rb ++ [34, 47, 62])) := add8r (60 :: 97 :: 32 :: 98 :: 61 :: 34 :: 38 :: rb) [34, 47, 62]
              have o1 : ¬ 9223372036854775807 < 3 + (strOf (38 :: rb)).size := by rw [size8]; simp only [List.length_cons]; omega
              have o2 : ¬ 9223372036854775807 < (strOf (60 :: 97 :: 62 :: 38 :: rb)).size + 4 := by rw [size8]; simp only [List.length_cons]; omega
              have o3 : ¬ 9223372036854775807 < 6 + (strOf (38 :: rb)).size := by rw [size8]; simp only [List.length_cons]; omega
              have o4 : ¬ 9223372036854775807 < (strOf (60 :: 97 :: 32 :: 98 :: 61 :: 34 :: 38 :: rb)).size + 3 := by rw [size8]; simp only [List.length_cons]; omega
              have HL1 : Hid ((60 :: 97 :: 62 :: 38 :: (rb ++ [60, 47, 97, 62]) : L8).length ≤ 1000000) := by show _ ≤ _; simp; omega
              have HL2 : Hid ((60 :: 97 :: 32 :: 98 :: 61 :: 34 :: 38 :: (rb ++ [34, 47, 62]) : L8).length ≤ 1000000) := by show _ ≤ _; simp; omega
              have Bj := Lib.hid (B4.out.trans (HBj.out.mono B4.out.size))
              have HEj := Lib.hid (HE.out.below h8 Bj.out)
              generalize hdA : (60 :: 97 :: 62 :: 38 :: (rb ++ [60, 47, 97, 62]) : L8) = dA at *
              generalize hdB : (60 :: 97 :: 32 :: 98 :: 61 :: 34 :: 38 :: (rb ++ [34, 47, 62]) : L8) = dB at *
              clear hdA hdB hrb hcell hlr
              cases q
              · have hok := HQ.out.symm
                rw [hok, if_neg (by simp)] at HT1 HT2
                clear hok
                go_wp2_with fail
                (with_reducible refine (parse_err dA 11 HT1 HL1.out wr HEj.out).mono ?_)
                rintro e w5 ⟨rfl, b5⟩
                simp only
                have B5 := Lib.hid (Bj.out.trans (b5.mono Bj.out.size))
                have C5 := Lib.hid (HBj.out.trans (b5.mono HBj.out.size))
                have HE5 := Lib.hid (HE.out.below h8 B5.out)
                clear b5
                go_wp2_with fail
                (with_reducible refine (parse_err dB 11 HT2 HL2.out w5 HE5.out).mono ?_)
                rintro e w6 ⟨rfl, b6⟩
                simp only
                have C6 := Lib.hid (C5.out.trans (b6.mono C5.out.size))
                clear b6
                go_wp2_with fail
                go_roundg (2 - (j + 1))
                case measure => omega
                case rel => exact ⟨j + 1, by go_num, by omega, Nat.le_refl _, C6⟩
              · have hok := HQ.out.symm
                rw [hok, if_pos rfl] at HT1 HT2
                have hnl := ok_lim n hok
                have his : isSign n := by
                  have := hok
                  unfold okSign at this
                  simp only [Bool.or_eq_true, Bool.and_eq_true, decide_eq_true_eq, beq_iff_eq] at this
                  rcases this with ((h | h) | h) | h
                  · unfold isSign; omega
                  · unfold isSign; omega
                  · unfold isSign; omega
                  · exact h.1.1.2
                have HIS := Lib.hid his
                have hw32 : IntKind.i32.wrap (n : Int) = (n : Int) := by rw [IntKind.wrap_i32]; omega
                clear hok his
                go_wp2_with fail
                (with_reducible refine (parse_ok dA _ HT1 HL1.out wr HEj.out).mono ?_)
                rintro e w5 ⟨v5, rfl, row5, b5⟩
                simp only
                have B5 := Lib.hid (Bj.out.trans (b5.mono Bj.out.size))
                have C5 := Lib.hid (HBj.out.trans (b5.mono HBj.out.size))
                have HE5 := Lib.hid (HE.out.below h8 B5.out)
                clear b5
                obtain ⟨ga, ca, hva, hca1, hca2, hcella⟩ := row_cells row5 (by simp)
                obtain ⟨av1, _, n1⟩ := hcella 1 _ rfl
                have x1 : w5.cell? ⟨ga, 7, none⟩ = some (.string (strOf (encS n))) := n1 1 _ rfl (by omega)
                have hga : ga < w5.heap.size := World.block_lt_of_cell? w5 _ x1
                have X1 := Lib.hid x1
                clear hcella n1 x1 row5
                subst hva
                simp only [List.length_cons, List.length_nil, Nat.zero_add] at hca1 ⊢
                go_wp2_with fail
                (with_reducible refine (parse_ok dB _ HT2 HL2.out w5 HE5.out).mono ?_)
                rintro e w6 ⟨v6, rfl, row6, b6⟩
                simp only
                have C6 := Lib.hid (C5.out.trans (b6.mono C5.out.size))
                have X2 : Hid (w6.cell? ⟨ga, 7, none⟩ = some (.string (strOf (encS n)))) := (b6.cell (p := ⟨ga, 7, none⟩) hga).trans X1.out
                have hga6 : ga < w6.heap.size := Nat.lt_of_lt_of_le hga b6.size
                clear b6
                obtain ⟨gb, cb, hvb, hcb1, hcb2, hcellb⟩ := row_cells row6 (by simp)
                obtain ⟨av, hat, n2⟩ := hcellb 0 _ rfl
                have y1 : w6.cell? ⟨gb, 2, none⟩ = some av := n2 2 _ rfl (by omega)
                obtain ⟨gc, cc, hav, _, hgc, hcc, hcm, _, hac⟩ := own_some hat (by simp)
                have y2 : w6.cell? ⟨gc, 1, none⟩ = some (.string (strOf (encS n))) := hac 1 _ rfl
                have hgb : gb < w6.heap.size := World.block_lt_of_cell? w6 _ y1
                subst hvb
                rw [hav] at y1
                have Y1 := Lib.hid y1
                have Y2 := Lib.hid y2
                clear hcellb n2 row6 hat hac y1 y2 hav
                simp only [List.length_cons, List.length_nil, Nat.zero_add] at hcb1 hcc Y1 ⊢
                have HPU := Lib.hid (uput_any (.slice none 0 0) [] w6.heap.size n HIS.out w6 (Own8.nil _ _ _) (Nat.le_refl _) (by simp))
                go_wp2_with fail
                (with_reducible refine HPU.out.mono ?_)
                rintro e w7 ⟨v7, rfl, ho7, hg7⟩
                rw [List.nil_append] at ho7
                have b7 : Below w6.heap.size w6 w7 := below_of_grown hg7 (fun k hk => by simp [Value.ownBlock] at hk)
                have C7 := Lib.hid (C6.out.trans (b7.mono C6.out.size))
                have x7 : w7.cell? ⟨ga, 7, none⟩ = some (.string (strOf (encS n))) := (b7.cell (p := ⟨ga, 7, none⟩) hga6).trans X2.out
                have y17 := (b7.cell (p := ⟨gb, 2, none⟩) hgb).trans Y1.out
                have y27 := (b7.cell (p := ⟨gc, 1, none⟩) hgc).trans Y2.out
                obtain ⟨A7, c7, hv7, _, _, hbs7, _⟩ := ho7.form
                have hcv : (convert 37 9 (.slice A7 (encS n).length c7)).run Tryd.prog w7 = .ok (.string (strOf (encS n))) w7 := hbs7.conv (encS n).length c7 rfl
                have s3 : ((strOf (encS n)).toList == (strOf (encS n)).toList) = true := by rw [str_eq]; exact decide_eq_true rfl
                subst hv7
                unfold maxLen at hcm
                clear b7 ho7 hg7 hbs7 X1 X2 Y1 Y2 hga hga6 hgb hgc
                go_wp2_with fail
                go_roundg (2 - (j + 1))
                case measure => omega
                case rel => exact ⟨j + 1, by go_num, by omega, Nat.le_refl _, C7⟩
            · obtain rfl : j = 2 := by omega
              go_wp2_with fail
              go_ret
              exact ⟨rfl, B4.out.trans (HBj.out.mono B4.out.size)⟩
end Go.Proofs.YtbehfhdkdekjfaaDoor
