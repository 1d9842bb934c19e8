/- DictShares answers true. -/
import Derived.Test.YtgpdpmbgadjooaaDcEn
import Derived.Test.YtgpdpmbgadjooaaDcShP
import Derived.Test.YtgpdpmbgadjooaaDcAp
import Derived.Test.YtgpdpmbgadjooaaQuB
import Derived.Deep.RegionHeld3
namespace Go.Proofs.Ytgpdpmbgadjooaa
open Go.RowKit Go.Sort
set_option maxRecDepth 100000

theorem cell_new3 (w : World) (v : Value) (t : TypeId) : (w.alloc (.cells #[v] t)).cell? ⟨w.heap.size, 0, none⟩ = some v := by
  have z := new_cells w #[v] t (0, 0) 0 v rfl
  rwa [add_addr, Nat.zero_add] at z
theorem str_app (p e : B8) : (⟨p.toArray⟩ : ByteArray) ++ (⟨e.toArray⟩ : ByteArray) = ⟨(p ++ e).toArray⟩ := by
  refine ByteArray.ext ?_
  rw [ByteArray.data_append]
  simp
set_option maxHeartbeats 1000000 in
theorem ds_long (A : Option Addr) (n c : Nat) (p : ByteArray) (hp : 30 < p.size) (hpm : p.size ≤ maxLen) (w : World) :
    Calls Try.prog 13 #[.string p, .slice A n c] w fun e w' => e = .returned (.bool true) ∧ Below w.heap.size w w' := by
  unfold maxLen at hpm
  go_enter Try.func13, Try.ntmps13
  go_wp2_with fail
  with_reducible refine (head_any _).mono ?_
  rintro e w1 ⟨rfl, b1⟩
  go_wp2_with fail
  go_ret
  exact ⟨rfl, b1⟩
set_option maxHeartbeats 1000000 in
theorem ds_many (A : Option Addr) (n c : Nat) (xs : List B8) (p : ByteArray) (hp : ¬ 30 < p.size) (hn : Hid (n = xs.length ∧ fewB xs = false)) (hnm : n ≤ 9223372036854775807) (w : World) (hI : CS w w.heap.size A (xs.map encStr)) :
    Calls Try.prog 13 #[.string p, .slice A n c] w fun e w' => e = .returned (.bool true) ∧ Below w.heap.size w w' := by
  have HCS := Lib.hid hI
  clear hI
  go_enter Try.func13, Try.ntmps13
  go_wp2_with fail
  with_reducible refine (head_any _).mono ?_
  rintro e w1 ⟨rfl, b1⟩
  go_wp2_with fail
  with_reducible refine (few_is A n c xs false hn hnm _ ((HCS.out.below b1).more b1.size)).mono ?_
  rintro e w2 ⟨rfl, rfl⟩
  go_wp2_with fail
  go_ret
  exact ⟨rfl, b1⟩
set_option maxHeartbeats 4000000 in
theorem ds_few (A : Option Addr) (n c : Nat) (xs : List B8) (p : B8) (hp : p.length ≤ 30) (hn : Hid (n = xs.length ∧ fewB xs = true)) (w : World) (hI : CS w w.heap.size A (xs.map encStr)) :
    Calls Try.prog 13 #[.string ⟨p.toArray⟩, .slice A n c] w fun e w' => e = .returned (.bool true) ∧ Below w.heap.size w w' := by
  have HCS := Lib.hid hI
  obtain ⟨f1, f2⟩ := few_true hn.out.2
  have HF := Lib.hid f2
  have hn60 : n ≤ 60 := by rw [hn.out.1]; exact f1
  obtain ⟨X, hX⟩ : ∃ X, dct xs = X := ⟨_, rfl⟩
  have rX : X.Pairwise (· < ·) := by rw [← hX]; exact dct_rises xs
  have lX : X.length ≤ 60 := by rw [← hX]; exact Nat.le_trans (dct_len xs) f1
  have zX : ∀ x ∈ X, x.length ≤ 40 := fun x hx => f2 x (by rw [← hX] at hx; exact (dct_mem xs x).1 hx)
  obtain ⟨D, hD⟩ : ∃ D, X.map (p ++ ·) = D := ⟨_, rfl⟩
  have lD : D.length = X.length := by rw [← hD, List.length_map]
  have zD : ∀ x ∈ D, x.length ≤ 70 := fun x hx => by
    rw [← hD] at hx
    obtain ⟨y, hy, rfl⟩ := List.mem_map.1 hx
    rw [List.length_append]
    have := zX y hy
    omega
  obtain ⟨us, hus⟩ : ∃ us, xs.map (p ++ ·) = us := ⟨_, rfl⟩
  have MX : Hid (n = xs.length ∧ xs.length ≤ 1000 ∧ (∀ x ∈ xs, x.length ≤ 1000) ∧ dct xs = X) := ⟨hn.out.1, by omega, fun x h => by have := f2 x h; omega, hX⟩
  have MD : Hid (n = us.length ∧ us.length ≤ 1000 ∧ (∀ x ∈ us, x.length ≤ 1000) ∧ dct us = D) := by
    refine ⟨by rw [← hus, List.length_map]; exact hn.out.1, by rw [← hus, List.length_map]; omega, fun x h => ?_, by rw [← hus, dct_app, hX, hD]⟩
    rw [← hus] at h
    obtain ⟨y, hy, rfl⟩ := List.mem_map.1 h
    rw [List.length_append]
    have := f2 y hy
    omega
  obtain ⟨m, hm⟩ : ∃ m, m = X.length := ⟨_, rfl⟩
  have PD : Hid (D.Pairwise (· < ·) ∧ cnt D p = 0 ∧ cnt D p + pcnt D p = m) := by
    rw [← hD, hm]
    exact ⟨app_rises p X rX, cnt_app p X, pcnt_app p X⟩
  obtain ⟨LX, hLX⟩ : ∃ L, L = (eD X).length := ⟨_, rfl⟩
  obtain ⟨LD, hLD⟩ : ∃ L, L = (eD D).length := ⟨_, rfl⟩
  have hle : LD ≤ LX + p.length := by rw [hLX, hLD, ← hD]; exact eD_app p hp X zX
  have hLX2 : LX ≤ 1000000 := by
    have h1 := (eWs_len X [] 40 zX (by decide)).1
    have h2 := glen_le10 X.length (by omega)
    unfold glen at h2
    have h3 : X.length * (40 + 20) ≤ 60 * 60 := Nat.mul_le_mul lX (by decide)
    rw [hLX, eD, List.length_append]
    omega
  have KX : Hid (∀ (W : World) (a : Option Addr) (c0 : Nat), CS W W.heap.size a (X.map encStr) → Calls Try.prog 33 #[.agg #[.slice a m c0], .slice none 0 0] W fun e w' => ∃ A' c', e = .returned (.slice A' LX c') ∧ Below W.heap.size W w') := fun W a c0 h =>
    (encode_any a m c0 X (.slice none 0 0) [] W.heap.size ⟨hm, fun x hx => by have := zX x hx; omega⟩ (by omega) W (by simp) h (Own8.nil _ _ _) (Nat.le_refl _)).mono fun e w' ⟨v', e1, o1, b1⟩ => by
      obtain ⟨A', c', rfl, _⟩ := o1.form
      rw [List.nil_append, ← hLX] at e1
      exact ⟨A', c', e1, b1⟩
  have KD : Hid (∀ (W : World) (a : Option Addr) (c0 : Nat), CS W W.heap.size a (D.map encStr) → Calls Try.prog 33 #[.agg #[.slice a m c0], .slice none 0 0] W fun e w' => ∃ A' c', e = .returned (.slice A' LD c') ∧ Below W.heap.size W w') := fun W a c0 h =>
    (encode_any a m c0 D (.slice none 0 0) [] W.heap.size ⟨by rw [lD]; exact hm, fun x hx => by have := zD x hx; omega⟩ (by omega) W (by simp) h (Own8.nil _ _ _) (Nat.le_refl _)).mono fun e w' ⟨v', e1, o1, b1⟩ => by
      obtain ⟨A', c', rfl, _⟩ := o1.form
      rw [List.nil_append, ← hLD] at e1
      exact ⟨A', c', e1, b1⟩
  have HLM : Hid (X.length = m ∧ D.length = m) := ⟨hm.symm, lD.trans hm.symm⟩
  have hm60 : m ≤ 60 := by omega
  have HUS := Lib.hid hus
  obtain ⟨sp, hsp⟩ : ∃ sp, sp = (⟨p.toArray⟩ : ByteArray) := ⟨_, rfl⟩
  have hps : sp.size = p.length := by rw [hsp]; exact str_size p
  have HSP := Lib.hid hsp
  have hsz : ¬ 30 < sp.size := by omega
  have hle' : LD ≤ LX + sp.size := by omega
  have hspz : sp.size ≤ 30 := by omega
  rw [← hsp]
  clear hI f1 f2 rX lX zX lD zD hm hLX hLD hle hX hD hus hps hsp hp
  go_enter Try.func13, Try.ntmps13
  go_wp2_with fail
  with_reducible refine (head_any _).mono ?_
  rintro e w1 ⟨rfl, b1⟩
  have C1 := Lib.hid ((HCS.out.below b1).more b1.size)
  go_wp2_with fail
  with_reducible refine (few_is A n c xs true hn (by omega) _ C1.out).mono ?_
  rintro e w2 ⟨rfl, rfl⟩
  have bL : Below w1.heap.size w1 (w1.alloc (.cells #[] 9)) := (Below.refl _ _).alloc (Nat.le_refl _) _
  have HO0 := Lib.hid (own_lit w1 9 1 (0, 0) rfl)
  have HBL := Lib.hid bL
  have HB1 := Lib.hid b1
  clear bL b1
  go_wp2_with fail
  go_loopw [5, 25] (fun s5 i wr => ∃ (k : Nat) (v : Value), k ≤ n ∧ i = .int .i64 k ∧ v = s5 ∧ Hid (wr.ownsRow w1.heap.size 9 1 v k (((us).take k).map encStr)) ∧ Hid (Below w1.heap.size w1 wr)) (fun _ i _ => n - (intOf i).toNat)
  case atStart => exact ⟨0, _, Nat.zero_le _, rfl, rfl, HO0, HBL⟩
  case round =>
    obtain ⟨k, v, hk, rfl, rfl, HO, HB⟩ := hrel
    by_cases hlt : k < n
    · have hkx : k < xs.length := by rw [← hn.out.1]; exact hlt
      obtain ⟨bb, o, rfl, hbb, hc⟩ := ((C1.out.below HB.out).more HB.out.size) (by rw [List.length_map]; omega)
      obtain ⟨x, hx⟩ : ∃ x, x = xs[k] := ⟨_, rfl⟩
      have hcx : wr.cell? ⟨bb, o + k, none⟩ = some (.string ⟨x.toArray⟩) := by rw [hx]; exact hc k _ (enc_cells_at xs k hkx)
      have hxs : (⟨x.toArray⟩ : ByteArray).size ≤ 40 := by rw [str_size, hx]; exact HF.out _ (List.getElem_mem hkx)
      have hku : k < us.length := by rw [← MD.out.1]; exact hlt
      have HTD : Hid (us.take k ++ [p ++ x] = us.take (k + 1)) := by
        show _ = _
        rw [List.take_succ_eq_append_getElem hku]
        congr 2
        rw [hx]
        simp [← HUS.out]
      have HLJ : Hid ((us.take k).length = k ∧ (us.take (k + 1)).length = k + 1) := ⟨by rw [List.length_take]; omega, by rw [List.length_take]; omega⟩
      obtain ⟨y, hy⟩ : ∃ y, y = p ++ x := ⟨_, rfl⟩
      have hsx : sp ++ (⟨x.toArray⟩ : ByteArray) = ⟨y.toArray⟩ := by rw [HSP.out, str_app, hy]
      rw [← hy] at HTD
      have bA : Below wr.heap.size wr (wr.alloc (.cells #[.string ⟨y.toArray⟩] 9)) := (Below.refl _ _).alloc (Nat.le_refl _) _
      have HOA := Lib.hid (own_below HO.out bA)
      have HCA : Hid (CS (wr.alloc (.cells #[.string ⟨y.toArray⟩] 9)) (wr.heap.size + 1) (some ⟨wr.heap.size, 0, none⟩) (([y] : List B8).map encStr)) := fun _ => ⟨wr.heap.size, 0, rfl, by omega, fun q u hu => by
        have z := new_cells wr #[.string ⟨y.toArray⟩] 9 (0, 0) q u hu
        rwa [add_addr] at z⟩
      have HBA := Lib.hid (HB.out.trans (bA.mono HB.out.size))
      have hsA : w1.heap.size ≤ (wr.alloc (.cells #[.string ⟨y.toArray⟩] 9)).heap.size := HBA.out.size
      obtain ⟨sx, hsx2⟩ : ∃ sx, sx = (⟨x.toArray⟩ : ByteArray) := ⟨_, rfl⟩
      rw [← hsx2] at hcx hxs hsx
      clear hx hc bA hy hsx2
      go_wp2_with (first
        | (at_builtin; refine wpList_appendS _ rfl (.tmp 29) (.tmp 33) rfl w1.heap.size _ (us.take k) k HLJ.out.1 rfl HOA.out (some ⟨wr.heap.size, 0, none⟩) 1 1 _ [y] (us.take (k + 1)) (k + 1) rfl rfl HCA.out HTD.out HLJ.out.2 (by omega) hsA ?_; intro v4 w4 hown4 hg4; have HB4 := Lib.hid (own_grow HOA.out (Nat.le_refl _) HBA.out hsA hg4); have HO4 := Lib.hid hown4))
      exact ⟨⟨k + 1, v4, hlt, by go_num, rfl, HO4, HB4⟩, by simp [intOf]; omega⟩
    · have hke : us.take k = us := List.take_of_length_le (by rw [← MD.out.1]; omega)
      obtain rfl : k = n := by omega
      have HO' := HO.out
      rw [hke] at HO'
      obtain ⟨A2, c2, rfl, _, _, hcs2, _⟩ := own_form HO'
      have CU := Lib.hid hcs2
      clear hke HO' hcs2
      go_wp2_with fail
      with_reducible refine (make_is _ _ _ _ _ MD _ CU.out).mono ?_
      rintro e w2 ⟨A3, n3, c3, rfl, hD3, b3⟩
      have hn3 : n3 = m := hD3.len.trans HLM.out.2
      subst hn3
      obtain ⟨W3, hW3⟩ : ∃ W3, w2.alloc (.cells #[.slice A3 n3 c3] 55) = W3 := ⟨_, rfl⟩
      have bW3 : Below w2.heap.size w2 W3 := by rw [← hW3]; exact (Below.refl _ _).alloc (Nat.le_refl _) _
      have x3 : W3.cell? ⟨w2.heap.size, 0, none⟩ = some (.slice A3 n3 c3) := by rw [← hW3]; exact cell_new3 _ _ _
      have b13 := HB.out.trans ((b3.trans (bW3.mono b3.size)).mono HB.out.size)
      have C3 := Lib.hid ((C1.out.below b13).more b13.size)
      have DD := Lib.hid (hD3.keep bW3)
      have B3 := Lib.hid (HB1.out.trans (b13.mono HB1.out.size))
      have X3 := Lib.hid x3
      clear hD3 b3 bW3 b13 x3 C1 CU HO HB HO0 HBL HB1
      go_wp2_with fail
      with_reducible refine (make_is _ _ _ _ _ MX _ C3.out).mono ?_
      rintro e w4 ⟨A4, n4, c4, rfl, hD4, b4⟩
      have hn4 : n4 = n3 := hD4.len.trans HLM.out.1
      subst hn4
      obtain ⟨W4, hW4⟩ : ∃ W4, w4.alloc (.cells #[.slice A4 n4 c4] 55) = W4 := ⟨_, rfl⟩
      have bW4 : Below w4.heap.size w4 W4 := by rw [← hW4]; exact (Below.refl _ _).alloc (Nat.le_refl _) _
      have x4 : W4.cell? ⟨w4.heap.size, 0, none⟩ = some (.slice A4 n4 c4) := by rw [← hW4]; exact cell_new3 _ _ _
      have b14 := b4.trans (bW4.mono b4.size)
      have HDD := Lib.hid (DD.out.keep b14)
      have HDX := Lib.hid (hD4.keep bW4)
      have B4 := Lib.hid (B3.out.trans (b14.mono B3.out.size))
      have HK : Hid (∀ W, Below W4.heap.size W4 W → W.cell? ⟨w2.heap.size, 0, none⟩ = some (.slice A3 n4 c3) ∧ W.cell? ⟨w4.heap.size, 0, none⟩ = some (.slice A4 n4 c4)) := by
        have hx := (b14.cell (World.block_lt_of_cell? W3 _ X3.out)).trans X3.out
        exact fun W hb => ⟨(hb.cell (World.block_lt_of_cell? W4 _ hx)).trans hx, (hb.cell (World.block_lt_of_cell? W4 _ x4)).trans x4⟩
      have KL : Hid (∀ W a m k, Below W4.heap.size W4 W → Calls Try.prog 30 #[.agg #[.slice a m k]] W fun e w' => e = .returned (.int .i64 m) ∧ Below W4.heap.size W4 w') := fun W a m k hb => (len_any a m k W).mono fun e w' h => ⟨h.1, hb.trans (h.2.mono hb.size)⟩
      have KEX : Hid (∀ W, Below W4.heap.size W4 W → Calls Try.prog 33 #[.agg #[.slice A4 n4 c4], .slice none 0 0] W fun e w' => ∃ A' c', e = .returned (.slice A' LX c') ∧ Below W4.heap.size W4 w') := fun W hb => (KX.out W A4 c4 ((HDX.out.keep hb).cs)).mono fun e w' ⟨a, b, h1, h2⟩ => ⟨a, b, h1, hb.trans (h2.mono hb.size)⟩
      have KED : Hid (∀ W, Below W4.heap.size W4 W → Calls Try.prog 33 #[.agg #[.slice A3 n4 c3], .slice none 0 0] W fun e w' => ∃ A' c', e = .returned (.slice A' LD c') ∧ Below W4.heap.size W4 w') := fun W hb => (KD.out W A3 c3 ((HDD.out.keep hb).cs)).mono fun e w' ⟨a, b, h1, h2⟩ => ⟨a, b, h1, hb.trans (h2.mono hb.size)⟩
      have BR := Lib.hid (Below.refl W4.heap.size W4)
      clear hD4 b4 bW4 x4 b14 DD B3 X3 C3 KX KD
      go_wp2_with fail
      go_region_held3 (fun W => W.cell? ⟨w2.heap.size, 0, none⟩ = some (.slice A3 n4 c3) ∧ W.cell? ⟨w4.heap.size, 0, none⟩ = some (.slice A4 n4 c4))
        (first | exact HK.out _ BR.out.drew | exact HK.out _ (by assumption))
        (first
          | (go_at_call 30; (with_reducible refine (KL.out _ _ _ _ ?_).mono ?_); (first | exact BR.out.drew | assumption); rintro e wl ⟨rfl, hbl⟩))
      all_goals
        have y1 := HK.out _ hbl
        go_wp2_with fail
        rw [HSP.out]
        (with_reducible refine (prefix_is _ _ _ _ p _ _ PD _ (HDD.out.keep hbl)).mono ?_)
        rintro e w5 ⟨rfl, b5⟩
        rw [← HSP.out]
        have h5 := hbl.trans (b5.mono hbl.size)
        clear y1
        have H5 := Lib.hid h5
        rcases Nat.eq_zero_or_pos n4 with h0 | h0
        · subst h0
          have hmx : Try.prog.follows .mixedOrders = true := by kernel_rfl
          have l1 : ∀ p : WB W4.heap.size W4, p.w.cell? ⟨w2.heap.size, 0, none⟩ = some (.slice A3 0 c3) := fun p => (HK.out p.w p.ok).1
          have KL0 : Hid (∀ p : WB W4.heap.size W4, Calls Try.prog 30 #[.agg #[.slice A3 0 c3]] p.w fun e w' => e = .returned (.int .i64 (0 : Nat)) ∧ Below p.w.heap.size p.w w') := fun p => len_any _ _ _ _
          go_wp2_with fail
          refine wp_region_quietB W4.heap.size W4 hmx (by kernel_rfl) H5.out ?_
          repeat (go_big_quiet_step ((go_at_call 30; with_reducible exact calls_quietB (KL0.out _) (Nat.le_refl _))))
          refine wpQuiet_nil ?_
          intro _ hw'
          obtain ⟨pq, rfl⟩ := hw'
          go_wp2_with fail
          go_ret
          exact ⟨rfl, B4.out.trans (pq.ok.mono B4.out.size)⟩
        · have hnz : ((n4 : Int) == 0) = false := by simp; omega
          have q1 : IntKind.i64.wrap ((LX : Int) + (sp.size : Int)) = (LX : Int) + (sp.size : Int) := by rw [IntKind.wrap_i64]; omega
          have q2 : IntKind.i64.wrap ((LX : Int) + (sp.size : Int) + (n4 : Int)) = (LX : Int) + (sp.size : Int) + (n4 : Int) := by rw [IntKind.wrap_i64]; omega
          have q3 : IntKind.i64.wrap ((LX : Int) + (sp.size : Int) + (n4 : Int) + 2) = (LX : Int) + (sp.size : Int) + (n4 : Int) + 2 := by rw [IntKind.wrap_i64]; omega
          have q4 : decide ((LD : Int) ≤ (LX : Int) + (sp.size : Int) + (n4 : Int) + 2) = true := decide_eq_true (by omega)
          go_wp2_with fail
          first
          | (go_region_held3 (fun W => W.cell? ⟨w2.heap.size, 0, none⟩ = some (.slice A3 n4 c3) ∧ W.cell? ⟨w4.heap.size, 0, none⟩ = some (.slice A4 n4 c4))
              (first | exact HK.out _ H5.out.drew | exact HK.out _ (by assumption))
              (first
                | (go_at_call 30; (with_reducible refine (KL.out _ _ _ _ ?_).mono ?_); (first | exact H5.out.drew | assumption); rintro e wm ⟨rfl, hbm⟩)
                | (go_at_call 33; (with_reducible refine (KEX.out _ ?_).mono ?_); (first | exact H5.out.drew | assumption); rintro e wm ⟨_, _, rfl, hbm⟩)
                | (go_at_call 33; (with_reducible refine (KED.out _ ?_).mono ?_); (first | exact H5.out.drew | assumption); rintro e wm ⟨_, _, rfl, hbm⟩)))
          | fail
          all_goals (go_wp2_with fail)
          all_goals go_ret
          all_goals exact ⟨rfl, B4.out.trans (hbm.mono B4.out.size)⟩
end Go.Proofs.Ytgpdpmbgadjooaa
