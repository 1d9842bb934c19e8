/- DictTwo, where both lists are few. -/
import Derived.Test.YtbchmfkdhaggbaaDcTw
namespace Go.Proofs.Ytbchmfkdhaggbaa
open Go.RowKit Go.Sort
set_option maxRecDepth 100000

theorem cell_new1 (w : World) (v : Value) (t : TypeId) : (w.alloc (.cells #[v] t)).cell? ⟨w.heap.size, 0, none⟩ = some v := by
  have z := new_cells w #[v] t (0, 0) 0 v rfl
  rwa [add_addr, Nat.zero_add] at z
set_option maxHeartbeats 16000000 in
theorem dt_both (A A' : Option Addr) (n c n' c' : Nat) (xs ys : List B8) (x : B8) (hn : Hid (n = xs.length ∧ fewB xs = true)) (hn' : Hid (n' = ys.length ∧ fewB ys = true)) (w : World) (hI : CS w w.heap.size A (xs.map encStr)) (hI' : CS w w.heap.size A' (ys.map encStr)) :
    Calls Try.prog 7 #[.slice A n c, .slice A' n' c', .string ⟨x.toArray⟩] w fun e w' => e = .returned (.bool true) ∧ Below w.heap.size w w' := by
  have HCS := Lib.hid hI
  have HCS' := Lib.hid hI'
  obtain ⟨f1, f2⟩ := few_true hn.out.2
  obtain ⟨g1, g2⟩ := few_true hn'.out.2
  have hn60 : n ≤ 60 := by rw [hn.out.1]; exact f1
  have hn60' : n' ≤ 60 := by rw [hn'.out.1]; exact g1
  obtain ⟨X, hX⟩ : ∃ X, dct xs = X := ⟨_, rfl⟩
  obtain ⟨Y, hY⟩ : ∃ Y, dct ys = Y := ⟨_, rfl⟩
  obtain ⟨Z, hZ⟩ : ∃ Z, dct (xs ++ ys) = Z := ⟨_, rfl⟩
  obtain ⟨n3, hn3⟩ : ∃ n3, (xs ++ ys).length = n3 := ⟨_, rfl⟩
  have hn3' : n3 = n + n' := by rw [← hn3, List.length_append, hn.out.1, hn'.out.1]
  have MX : Hid (n = xs.length ∧ xs.length ≤ 1000 ∧ (∀ x ∈ xs, x.length ≤ 1000) ∧ dct xs = X) := ⟨hn.out.1, by omega, fun x h => by have := f2 x h; omega, hX⟩
  have MY : Hid (n' = ys.length ∧ ys.length ≤ 1000 ∧ (∀ x ∈ ys, x.length ≤ 1000) ∧ dct ys = Y) := ⟨hn'.out.1, by omega, fun x h => by have := g2 x h; omega, hY⟩
  have MZ : Hid (n3 = (xs ++ ys).length ∧ (xs ++ ys).length ≤ 1000 ∧ (∀ x ∈ xs ++ ys, x.length ≤ 1000) ∧ dct (xs ++ ys) = Z) := ⟨hn3.symm, by rw [hn3]; omega, fun x h => by rcases List.mem_append.1 h with h | h; have := f2 x h; omega; have := g2 x h; omega, hZ⟩
  have rX : X.Pairwise (· < ·) := by rw [← hX]; exact dct_rises xs
  have rY : Y.Pairwise (· < ·) := by rw [← hY]; exact dct_rises ys
  have rZ : Z.Pairwise (· < ·) := by rw [← hZ]; exact dct_rises _
  have hmem : ∀ a, a ∈ Z ↔ a ∈ X ∨ a ∈ Y := fun a => by rw [← hX, ← hY, ← hZ, dct_mem, dct_mem, dct_mem, List.mem_append]
  obtain ⟨l1, l2⟩ := two_len X Y Z rX rY rZ hmem
  obtain ⟨l3, _⟩ := two_len Y X Z rY rX rZ (fun a => (hmem a).trans Or.comm)
  have HL := Lib.hid (And.intro l1 (And.intro l2 l3))
  have lx60 : X.length ≤ 60 := by rw [← hX]; exact Nat.le_trans (dct_len xs) f1
  have ly60 : Y.length ≤ 60 := by rw [← hY]; exact Nat.le_trans (dct_len ys) g1
  obtain ⟨qx, hqx⟩ : ∃ q, decide (x ∈ X) = q := ⟨_, rfl⟩
  obtain ⟨qy, hqy⟩ : ∃ q, decide (x ∈ Y) = q := ⟨_, rfl⟩
  have hqz : decide (x ∈ Z) = (qx || qy) := by rw [← hqx, ← hqy, ← Bool.decide_or]; exact decide_eq_decide.2 (hmem x)
  have FX : Hid (X.Pairwise (· < ·) ∧ cnt X x = cnt X x ∧ decide (x ∈ X) = qx) := ⟨rX, rfl, hqx⟩
  have FY : Hid (Y.Pairwise (· < ·) ∧ cnt Y x = cnt Y x ∧ decide (x ∈ Y) = qy) := ⟨rY, rfl, hqy⟩
  have FZ : Hid (Z.Pairwise (· < ·) ∧ cnt Z x = cnt Z x ∧ decide (x ∈ Z) = (qx || qy)) := ⟨rZ, rfl, hqz⟩
  have HMEM := Lib.hid hmem
  have HRR := Lib.hid (And.intro rX rY)
  have HX60 := Lib.hid (And.intro lx60 ly60)
  obtain ⟨sx, hsx⟩ : ∃ sx, sx = (⟨x.toArray⟩ : ByteArray) := ⟨_, rfl⟩
  have KX : Hid (∀ W a m k, DT W a m k X → Calls Try.prog 15 #[.agg #[.slice a m k], .string sx] W fun e w' => e = .returned (.tuple #[.int .i64 (cnt X x : Nat), .bool qx]) ∧ Below W.heap.size W w') := fun W a m k hd => by rw [hsx]; exact find_is a m k X x _ qx FX W hd
  have KY : Hid (∀ W a m k, DT W a m k Y → Calls Try.prog 15 #[.agg #[.slice a m k], .string sx] W fun e w' => e = .returned (.tuple #[.int .i64 (cnt Y x : Nat), .bool qy]) ∧ Below W.heap.size W w') := fun W a m k hd => by rw [hsx]; exact find_is a m k Y x _ qy FY W hd
  have KZ : Hid (∀ W a m k, DT W a m k Z → Calls Try.prog 15 #[.agg #[.slice a m k], .string sx] W fun e w' => e = .returned (.tuple #[.int .i64 (cnt Z x : Nat), .bool (qx || qy)]) ∧ Below W.heap.size W w') := fun W a m k hd => by rw [hsx]; exact find_is a m k Z x _ _ FZ W hd
  generalize cnt X x = mx at *
  generalize cnt Y x = my at *
  generalize cnt Z x = mz at *
  rw [← hsx]
  have HN3 := Lib.hid hn3
  have HNX := Lib.hid hn.out.1.symm
  have h3b : n3 ≤ 1000 := by omega
  clear hI hI' f1 f2 g1 g2 hX hY hZ hn3 hn3' rX rY rZ hmem l1 l2 l3 lx60 ly60 hqx hqy hqz FX FY FZ hsx
  go_enter Try.func7, Try.ntmps7
  go_wp2_with fail
  with_reducible refine (head_any _).mono ?_
  rintro e w1 ⟨rfl, b1⟩
  have C1 := Lib.hid ((HCS.out.below b1).more b1.size)
  have C1' := Lib.hid ((HCS'.out.below b1).more b1.size)
  go_wp2_with fail
  with_reducible refine (few_is A n c xs true hn (by omega) _ C1.out).mono ?_
  rintro e w2 ⟨rfl, rfl⟩
  go_wp2_with fail
  with_reducible refine (few_is A' n' c' ys true hn' (by omega) _ C1'.out).mono ?_
  rintro e w3 ⟨rfl, rfl⟩
  go_wp2_with fail
  with_reducible refine (make_is _ _ _ _ _ MX _ C1.out).mono ?_
  rintro e w2 ⟨A2, nX, cX, rfl, hD2, b2⟩
  obtain ⟨W2, hW2⟩ : ∃ W2, w2.alloc (.cells #[.slice A2 nX cX] 26) = W2 := ⟨_, rfl⟩
  have bW2 : Below w2.heap.size w2 W2 := by rw [← hW2]; exact (Below.refl _ _).alloc (Nat.le_refl _) _
  have x2 : W2.cell? ⟨w2.heap.size, 0, none⟩ = some (.slice A2 nX cX) := by rw [← hW2]; exact cell_new1 _ _ _
  have b12 := b2.trans (bW2.mono b2.size)
  have C2 := Lib.hid ((C1.out.below b12).more b12.size)
  have C2' := Lib.hid ((C1'.out.below b12).more b12.size)
  have D2 := Lib.hid (hD2.keep bW2)
  have B2 := Lib.hid (b1.trans (b12.mono b1.size))
  have X2 := Lib.hid x2
  clear hD2 b2 bW2 b12 b1 x2 C1 C1'
  go_wp2_with fail
  with_reducible refine (make_is _ _ _ _ _ MY _ C2'.out).mono ?_
  rintro e w3 ⟨A3, nY, cY, rfl, hD3, b3⟩
  obtain ⟨W3, hW3⟩ : ∃ W3, w3.alloc (.cells #[.slice A3 nY cY] 26) = W3 := ⟨_, rfl⟩
  have bW3 : Below w3.heap.size w3 W3 := by rw [← hW3]; exact (Below.refl _ _).alloc (Nat.le_refl _) _
  have x3 : W3.cell? ⟨w3.heap.size, 0, none⟩ = some (.slice A3 nY cY) := by rw [← hW3]; exact cell_new1 _ _ _
  have b13 := b3.trans (bW3.mono b3.size)
  have C3 := Lib.hid ((C2.out.below b13).more b13.size)
  have C3' := Lib.hid ((C2'.out.below b13).more b13.size)
  have DX := Lib.hid (D2.out.keep b13)
  have DY := Lib.hid (hD3.keep bW3)
  have B3 := Lib.hid (B2.out.trans (b13.mono B2.out.size))
  have XX := Lib.hid ((b13.cell (World.block_lt_of_cell? W2 _ X2.out)).trans X2.out)
  have XY := Lib.hid x3
  clear hD3 b3 bW3 b13 x3 C2 C2' D2 B2 X2
  have bL : Below W3.heap.size W3 (W3.alloc (.cells #[] 9)) := (Below.refl _ _).alloc (Nat.le_refl _) _
  have hown0 := own_lit W3 9 1 (0, 0) rfl
  have CL := Lib.hid ((C3.out.below bL).more bL.size)
  have CL' := Lib.hid ((C3'.out.below bL).more bL.size)
  have hsL : W3.heap.size ≤ (W3.alloc (.cells #[] 9)).heap.size := bL.size
  go_wp2_with (first
    | (at_builtin; refine wpList_appendS _ rfl (.tmp 35) (.tmp 36) rfl W3.heap.size _ [] 0 rfl rfl hown0 A n c _ xs xs n rfl hn.out.1 CL.out rfl HNX.out (by omega) hsL ?_; intro v4 w4 hown4 hg4; have b4 := own_grow hown0 (Nat.le_refl _) bL hsL hg4; have C4' := Lib.hid ((C3'.out.below b4).more b4.size); have hs4 := b4.size)
    | (at_builtin; refine wpList_appendS _ rfl (.tmp 37) (.tmp 38) rfl W3.heap.size _ xs n HNX.out rfl hown4 A' n' c' _ ys (xs ++ ys) n3 rfl hn'.out.1 C4'.out rfl HN3.out h3b hs4 ?_; intro v5 w5 hown5 hg5; have b5 := own_grow hown4 (Nat.le_refl _) b4 hs4 hg5; obtain ⟨A5, c5, rfl, k5a, k5b, k5c, _⟩ := own_form hown5))
  with_reducible refine (make_is _ _ _ _ _ MZ _ k5c).mono ?_
  rintro e w6 ⟨A6, nZ, cZ, rfl, hD6, b6⟩
  obtain ⟨W6, hW6⟩ : ∃ W6, w6.alloc (.cells #[.slice A6 nZ cZ] 26) = W6 := ⟨_, rfl⟩
  have bW6 : Below w6.heap.size w6 W6 := by rw [← hW6]; exact (Below.refl _ _).alloc (Nat.le_refl _) _
  have x6 : W6.cell? ⟨w6.heap.size, 0, none⟩ = some (.slice A6 nZ cZ) := by rw [← hW6]; exact cell_new1 _ _ _
  have b36 : Below W3.heap.size W3 W6 := b5.trans ((b6.trans (bW6.mono b6.size)).mono b5.size)
  have EX := Lib.hid (DX.out.keep b36)
  have EY := Lib.hid (DY.out.keep b36)
  have EZ := Lib.hid (hD6.keep bW6)
  have B6 := Lib.hid (B3.out.trans (b36.mono B3.out.size))
  have HK : Hid (∀ W, Below W6.heap.size W6 W → W.cell? ⟨w2.heap.size, 0, none⟩ = some (.slice A2 nX cX) ∧ W.cell? ⟨w3.heap.size, 0, none⟩ = some (.slice A3 nY cY) ∧ W.cell? ⟨w6.heap.size, 0, none⟩ = some (.slice A6 nZ cZ)) := by
    have hx := (b36.cell (World.block_lt_of_cell? W3 _ XX.out)).trans XX.out
    have hy := (b36.cell (World.block_lt_of_cell? W3 _ XY.out)).trans XY.out
    exact fun W hb => ⟨(hb.cell (World.block_lt_of_cell? W6 _ hx)).trans hx, (hb.cell (World.block_lt_of_cell? W6 _ hy)).trans hy, (hb.cell (World.block_lt_of_cell? W6 _ x6)).trans x6⟩
  have HNN : Hid (nX = X.length ∧ nY = Y.length ∧ nZ = Z.length) := ⟨DX.out.len, DY.out.len, hD6.len⟩
  clear hD6 b6 bW6 x6 b36 b5 k5a k5b k5c hown5 hg5 hown4 hg4 hown0 b4 hs4 C4' CL CL' bL hsL C3 C3' DX DY B3 XX XY
  obtain ⟨y1, y2, y3⟩ := HK.out W6 (Below.refl _ _)
  go_wp2_with fail
  with_reducible refine (KX.out _ _ _ _ EX.out).mono ?_
  rintro e w7 ⟨rfl, b7⟩
  clear y1 y2 y3
  obtain ⟨y1, y2, y3⟩ := HK.out w7 b7
  go_wp2_with fail
  with_reducible refine (KY.out _ _ _ _ (EY.out.keep b7)).mono ?_
  rintro e w8 ⟨rfl, b8⟩
  replace b8 := b7.trans (b8.mono b7.size)
  clear y1 y2 y3
  obtain ⟨y1, y2, y3⟩ := HK.out w8 b8
  go_wp2_with fail
  with_reducible refine (KZ.out _ _ _ _ (EZ.out.keep b8)).mono ?_
  rintro e w9 ⟨rfl, b9⟩
  replace b9 := b8.trans (b9.mono b8.size)
  clear y1 y2 y3
  have HLE := Lib.hid HL.out
  obtain ⟨e1, e2, e3⟩ := HNN.out
  have hle : nX ≤ nZ ∧ nZ ≤ nX + nY ∧ nY ≤ nZ ∧ nX ≤ 60 ∧ nY ≤ 60 := by rw [e1, e2, e3]; exact ⟨HL.out.1, HL.out.2.1, HL.out.2.2, HX60.out.1, HX60.out.2⟩
  clear e1 e2 e3
  obtain ⟨q1, q2, q3, q4, q5⟩ := hle
  have t1 : decide (nX + nY < nZ) = false := decide_eq_false (by omega)
  have t2 : decide (nZ < max nX nY) = false := decide_eq_false (by omega)
  have hwr : IntKind.i64.wrap ((nX : Int) + (nY : Int)) = (nX : Int) + (nY : Int) := by rw [IntKind.wrap_i64]; omega
  have t1' : decide ((nX : Int) + (nY : Int) < (nZ : Int)) = false := decide_eq_false (by omega)
  have t2' : decide ((nZ : Int) < max (nX : Int) (nY : Int)) = false := decide_eq_false (by omega)
  have KL : Hid (∀ W a m k, Below W6.heap.size W6 W → Calls Try.prog 13 #[.agg #[.slice a m k]] W fun e w' => e = .returned (.int .i64 m) ∧ Below W6.heap.size W6 w') := fun W a m k hb => (len_any a m k W).mono fun e w' h => ⟨h.1, hb.trans (h.2.mono hb.size)⟩
  have B9 := Lib.hid b9
  have HNZ : Hid (nZ = Z.length) := HNN.out.2.2
  have B6' := B6
  cases qx <;> cases qy
  all_goals
    go_wp2_with fail
    first
    | (go_region_held (fun W => W.cell? ⟨w2.heap.size, 0, none⟩ = some (.slice A2 nX cX) ∧ W.cell? ⟨w3.heap.size, 0, none⟩ = some (.slice A3 nY cY) ∧ W.cell? ⟨w6.heap.size, 0, none⟩ = some (.slice A6 nZ cZ))
      (first | exact HK.out _ B9.out.drew | exact HK.out _ (by assumption))
      (first
        | (go_at_call 13; (with_reducible refine (KL.out _ _ _ _ ?_).mono ?_); (first | exact B9.out.drew | assumption); rintro e wl ⟨rfl, hbl⟩)))
    | fail
    all_goals (go_wp2_with fail)
    all_goals
      have hbA : Below W6.heap.size W6 _ := (show Below W6.heap.size W6 wl from hbl)
      clear t1 t2 t1' t2' hwr b7 b8 b9 B9
      go_loopw [16] (fun i wr => ∃ k : Nat, k ≤ nZ ∧ i = .int .i64 k ∧ Below W6.heap.size W6 wr) (fun i _ => nZ - (intOf i).toNat)
      case atStart => exact ⟨0, Nat.zero_le _, rfl, hbl⟩
      case round =>
        obtain ⟨k, hk, rfl, hb⟩ := hrel
        obtain ⟨y1, y2, y3⟩ := HK.out wr hb
        by_cases hlt : k < nZ
        · have hkz : k < Z.length := by rw [← HNZ.out]; exact hlt
          obtain ⟨u, hu⟩ : ∃ u, u = Z[k] := ⟨_, rfl⟩
          have HU : Hid (Z[k]? = some u) := by show _ = _; rw [hu]; exact List.getElem?_eq_getElem hkz
          have huz : u ∈ X ∨ u ∈ Y := (HMEM.out u).1 (by rw [hu]; exact List.getElem_mem hkz)
          obtain ⟨px, hpx⟩ : ∃ q, decide (u ∈ X) = q := ⟨_, rfl⟩
          obtain ⟨py, hpy⟩ : ∃ q, decide (u ∈ Y) = q := ⟨_, rfl⟩
          obtain ⟨cx, hcx⟩ : ∃ q, cnt X u = q := ⟨_, rfl⟩
          obtain ⟨cy, hcy⟩ : ∃ q, cnt Y u = q := ⟨_, rfl⟩
          have HXY : Hid (px = true ∨ py = true) := by rw [← hpx, ← hpy, decide_eq_true_eq, decide_eq_true_eq]; exact huz
          obtain ⟨su, hsu⟩ : ∃ su, su = (⟨u.toArray⟩ : ByteArray) := ⟨_, rfl⟩
          have KW : Hid (∀ W, Below W6.heap.size W6 W → Calls Try.prog 14 #[.agg #[.slice A6 nZ cZ], .int .i64 k] W fun e w' => e = .returned (.string su) ∧ Below W6.heap.size W6 w') := fun W hb => by rw [hsu]; exact (word_is A6 nZ cZ Z k u HU W (EZ.out.keep hb)).mono fun e w' h => ⟨h.1, hb.trans (h.2.mono hb.size)⟩
          have KFX : Hid (∀ W, Below W6.heap.size W6 W → Calls Try.prog 15 #[.agg #[.slice A2 nX cX], .string su] W fun e w' => e = .returned (.tuple #[.int .i64 (cx : Nat), .bool px]) ∧ Below W6.heap.size W6 w') := fun W hb => by rw [hsu]; exact (find_is A2 nX cX X u cx px ⟨HRR.out.1, hcx, hpx⟩ W (EX.out.keep hb)).mono fun e w' h => ⟨h.1, hb.trans (h.2.mono hb.size)⟩
          have KFY : Hid (∀ W, Below W6.heap.size W6 W → Calls Try.prog 15 #[.agg #[.slice A3 nY cY], .string su] W fun e w' => e = .returned (.tuple #[.int .i64 (cy : Nat), .bool py]) ∧ Below W6.heap.size W6 w') := fun W hb => by rw [hsu]; exact (find_is A3 nY cY Y u cy py ⟨HRR.out.2, hcy, hpy⟩ W (EY.out.keep hb)).mono fun e w' h => ⟨h.1, hb.trans (h.2.mono hb.size)⟩
          have hltI : (k : Int) < (nZ : Int) := by omega
          clear hu huz hpx hpy hcx hcy hsu
          go_wp2_with fail
          with_reducible refine (KL.out _ _ _ _ hb).mono ?_
          rintro e wa ⟨rfl, ba⟩
          clear y1 y2 y3
          go_wp2_with fail
          go_region_held3 (fun W => W.cell? ⟨w2.heap.size, 0, none⟩ = some (.slice A2 nX cX) ∧ W.cell? ⟨w3.heap.size, 0, none⟩ = some (.slice A3 nY cY) ∧ W.cell? ⟨w6.heap.size, 0, none⟩ = some (.slice A6 nZ cZ))
            (first | exact HK.out _ ba.drew | exact HK.out _ (by assumption))
            (first
              | (go_at_call 14; (with_reducible refine (KW.out _ ?_).mono ?_); (first | exact ba.drew | assumption); rintro e wb ⟨rfl, bb⟩)
              | (go_at_call 15; (with_reducible refine (KFX.out _ ?_).mono ?_); (first | exact ba.drew | assumption); rintro e wc ⟨rfl, bc⟩))
          all_goals (go_wp2_with fail)
          all_goals
            go_region_held3 (fun W => W.cell? ⟨w2.heap.size, 0, none⟩ = some (.slice A2 nX cX) ∧ W.cell? ⟨w3.heap.size, 0, none⟩ = some (.slice A3 nY cY) ∧ W.cell? ⟨w6.heap.size, 0, none⟩ = some (.slice A6 nZ cZ))
              (first | exact HK.out _ bc.drew | exact HK.out _ (by assumption))
              (first
                | (go_at_call 14; (with_reducible refine (KW.out _ ?_).mono ?_); (first | exact bc.drew | assumption); rintro e wd ⟨rfl, bd⟩)
                | (go_at_call 15; (with_reducible refine (KFY.out _ ?_).mono ?_); (first | exact bc.drew | assumption); rintro e we ⟨rfl, be⟩))
          all_goals
            cases px <;> cases py
          all_goals first
            | (exfalso; rcases HXY.out with h | h <;> cases h; done)
            | (go_wp2_with fail
               exact ⟨⟨k + 1, by omega, by go_num, be⟩, by simp [intOf]; omega⟩)
        · have hltI : ¬ (k : Int) < (nZ : Int) := by omega
          go_wp2_with fail
          with_reducible refine (KL.out _ _ _ _ hb).mono ?_
          rintro e wa ⟨rfl, ba⟩
          go_wp2_with fail
          go_ret
          exact ⟨rfl, B6'.out.trans (ba.mono B6'.out.size)⟩
end Go.Proofs.Ytbchmfkdhaggbaa
