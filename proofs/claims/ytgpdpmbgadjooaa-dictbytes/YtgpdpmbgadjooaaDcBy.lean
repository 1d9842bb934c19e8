/- DictBytes answers true. -/
import Derived.Test.YtgpdpmbgadjooaaDcRs
import Derived.Lib.Hide
namespace Go.Proofs.Ytgpdpmbgadjooaa
open Go.RowKit Go.Sort
set_option maxRecDepth 100000

/-- append(own, bytes...) at a step of a region that draws. -/
theorem step_append8 {ops : Array Oper} {o : Oper} {a : Act} {K : Act → World → Prop} {Q : Exit → Act → World → Prop} {E : Prop} (w : World) (hgd : o.guard = none) (s x : Operand)
    (ho : o.op = .call { callee := .builtin .append, args := #[s, x], argTypes := #[25, 25] })
    (base : Nat) (v : Value) (l : List UInt8) (hs : a.eval s = v) (hown : Own8 w base 5 v l) (A : Option Addr) (n c B : Nat) (m : List UInt8) (hx : a.eval x = .slice A n c) (hn : n = m.length) (hm : BS w B A m)
    (hlen : l.length + m.length ≤ 70368744177664) (hbase : base ≤ w.heap.size)
    (h : ∀ v' w', Own8 w' base 5 v' (l ++ m) → w.grownBy w' v.ownBlock → K (a.put o.dst v') w') :
    if Region.wanted o (yielded ops a.tmps) = true then Oper.wp Try.prog o a w K Q else E := by
  subst hn
  have hw : Region.wanted o (yielded ops a.tmps) = true := by simp [Region.wanted, hgd]
  rw [if_pos hw]
  obtain ⟨v', w', hr, h2, h3, _⟩ := run_append8 w o.type base v l hown A c B m hm hlen hbase
  unfold Oper.wp execOp
  simp only [ho, resolve, invoke, builtin, Sem.run_bind, Sem.run_pure, Result.andThen_ok, List.map_toArray, List.map_cons, List.map_nil, hs, hx, hr]
  exact h v' w' h2 h3
theorem cut_mod (a : Int) (m : Nat) (hm : 0 < m) : ∃ k : Nat, (bits .and .i64 a 65535).tmod (m : Int) = (k : Int) ∧ k < m := by
  have e : bits .and .i64 a 65535 = IntKind.i64.wrap ((BitVec.ofInt 64 a &&& BitVec.ofInt 64 65535).toNat : Int) := rfl
  obtain ⟨q, hq⟩ : ∃ q : Nat, bits .and .i64 a 65535 = (q : Int) := by
    refine ⟨(BitVec.ofInt 64 a &&& BitVec.ofInt 64 65535).toNat, ?_⟩
    rw [e, IntKind.wrap_i64]
    have : (BitVec.ofInt 64 a &&& BitVec.ofInt 64 65535).toNat ≤ 65535 := by
      rw [BitVec.toNat_and]
      exact Nat.le_trans Nat.and_le_right (by decide)
    omega
  rw [hq]
  exact ⟨q % m, (Int.ofNat_tmod q m).symm, Nat.mod_lt _ hm⟩
set_option maxHeartbeats 1000000 in
theorem db_many (A A2 : Option Addr) (n c n2 c2 : Nat) (cut : Int) (xs : List B8) (hn : Hid (n = xs.length ∧ fewB xs = false)) (hnm : n ≤ 9223372036854775807) (w : World) (hI : CS w w.heap.size A (xs.map encStr)) :
    Calls Try.prog 11 #[.slice A n c, .slice A2 n2 c2, .int .i64 cut] w fun e w' => e = .returned (.bool true) ∧ Below w.heap.size w w' := by
  have HCS := Lib.hid hI
  clear hI
  go_enter Try.func11, Try.ntmps11
  go_wp2_with fail
  with_reducible refine (head_any _).mono ?_
  rintro e w1 ⟨rfl, b1⟩
  go_wp2_with fail
  with_reducible refine (few_is A n c xs false hn hnm _ ((HCS.out.below b1).more b1.size)).mono ?_
  rintro e w2 ⟨rfl, rfl⟩
  go_wp2_with fail
  go_ret
  exact ⟨rfl, b1⟩
set_option maxHeartbeats 1000000 in
theorem db_long (A A2 : Option Addr) (n c n2 c2 : Nat) (cut : Int) (xs : List B8) (hn : Hid (n = xs.length ∧ fewB xs = true)) (hnm : n ≤ 9223372036854775807) (hn2 : 20 < n2) (hnm2 : n2 ≤ 9223372036854775807) (w : World) (hI : CS w w.heap.size A (xs.map encStr)) :
    Calls Try.prog 11 #[.slice A n c, .slice A2 n2 c2, .int .i64 cut] w fun e w' => e = .returned (.bool true) ∧ Below w.heap.size w w' := by
  have HCS := Lib.hid hI
  have hn2I : (20 : Int) < (n2 : Int) := by omega
  clear hI
  go_enter Try.func11, Try.ntmps11
  go_wp2_with fail
  with_reducible refine (head_any _).mono ?_
  rintro e w1 ⟨rfl, b1⟩
  go_wp2_with fail
  with_reducible refine (few_is A n c xs true hn hnm _ ((HCS.out.below b1).more b1.size)).mono ?_
  rintro e w2 ⟨rfl, rfl⟩
  go_wp2_with fail
  go_ret
  exact ⟨rfl, b1⟩
theorem count_part {ws : List B8} {k N : Nat} {r : B8} (hw : ws.length ≤ 60) (h : rdN ((eD ws).take k) ((eD ws).take k).length = some (N, r)) : N ≤ 1000 := by
  obtain ⟨e, _, h64⟩ := rdN_some h
  have g1 := getN_enc N h64 (r ++ (eD ws).drop k)
  have g2 := getN_enc ws.length (by omega) (eWs [] ws)
  rw [← List.append_assoc, ← e, List.take_append_drop] at g1
  have g3 : getN (eD ws) = (ws.length, glen ws.length) := g2
  rw [g3] at g1
  have := congrArg Prod.fst g1
  simp at this
  omega
set_option maxHeartbeats 8000000 in
theorem db_any (A A2 : Option Addr) (n c n2 c2 : Nat) (cut : Int) (xs : List B8) (l : B8) (hn : Hid (n = xs.length ∧ fewB xs = true)) (HL2 : Hid (n2 = l.length)) (hn20 : n2 ≤ 20) (w : World) (hI : CS w w.heap.size A (xs.map encStr)) (hI2 : BS w w.heap.size A2 l) :
    Calls Try.prog 11 #[.slice A n c, .slice A2 n2 c2, .int .i64 cut] w fun e w' => e = .returned (.bool true) ∧ Below w.heap.size w w' := by
  obtain ⟨f1, f2⟩ := few_true hn.out.2
  have hn60 : n ≤ 60 := by rw [hn.out.1]; exact f1
  obtain ⟨D, hD⟩ : ∃ D, dct xs = D := ⟨_, rfl⟩
  have hr : D.Pairwise (· < ·) := by rw [← hD]; exact dct_rises xs
  have lD : D.length ≤ 60 := by rw [← hD]; exact Nat.le_trans (dct_len xs) f1
  have zD : ∀ x ∈ D, x.length ≤ 40 := fun x hx => f2 x (by rw [← hD] at hx; exact (dct_mem xs x).1 hx)
  have HM : Hid (n = xs.length ∧ xs.length ≤ 1000 ∧ (∀ x ∈ xs, x.length ≤ 1000) ∧ dct xs = D) := ⟨hn.out.1, by omega, fun x h => by have := f2 x h; omega, hD⟩
  have HR := Lib.hid hr
  have HLD := Lib.hid lD
  have HZD := Lib.hid zD
  obtain ⟨E, hE⟩ : ∃ E, E = eD D := ⟨_, rfl⟩
  have HE := Lib.hid hE
  obtain ⟨LE, hLE⟩ : ∃ L, L = E.length := ⟨_, rfl⟩
  have HLE := Lib.hid hLE
  have hLE0 : 0 < LE := by rw [hLE, hE, eD, List.length_append]; have := glen_pos D.length; unfold glen at this; omega
  have hLE2 : LE ≤ 10000 := by
    have h1 := (eWs_len D [] 40 zD (by decide)).1
    have h2 := glen_le10 D.length (by omega)
    unfold glen at h2
    have h3 : D.length * (40 + 20) ≤ 60 * 60 := Nat.mul_le_mul lD (by decide)
    rw [hLE, hE, eD, List.length_append]
    omega
  have HDE : Hid (dD E = some (D, [])) := by
    have := dD_enc D [] hr (fun w hw => by have := zD w hw; omega) (by omega)
    rw [List.append_nil] at this
    rw [hE]
    exact this
  have HCS := Lib.hid hI
  have HBS := Lib.hid hI2
  have hn2I : ¬ (20 : Int) < (n2 : Int) := by omega
  clear hI hI2 f1 f2 hr lD zD hD hE hLE
  go_enter Try.func11, Try.ntmps11
  go_wp2_with fail
  with_reducible refine (head_any _).mono ?_
  rintro e w1 ⟨rfl, b1⟩
  have C1 := Lib.hid ((HCS.out.below b1).more b1.size)
  go_wp2_with fail
  with_reducible refine (few_is A n c xs true hn (by omega) _ C1.out).mono ?_
  rintro e w2 ⟨rfl, rfl⟩
  go_wp2_with fail
  with_reducible refine (make_is _ _ _ _ _ HM _ C1.out).mono ?_
  rintro e w2 ⟨A3, m, c3, rfl, hD2, b2⟩
  obtain ⟨W2, hW2⟩ : ∃ W2, w2.alloc (.cells #[.slice A3 m c3] 55) = W2 := ⟨_, rfl⟩
  have bW2 : Below w2.heap.size w2 W2 := by rw [← hW2]; exact (Below.refl _ _).alloc (Nat.le_refl _) _
  have x2 : W2.cell? ⟨w2.heap.size, 0, none⟩ = some (.slice A3 m c3) := by rw [← hW2]; exact cell_new4 _ _ _
  have D2 := Lib.hid (hD2.keep bW2)
  have b12 := b1.trans ((b2.trans (bW2.mono b2.size)).mono b1.size)
  have B2 := Lib.hid b12
  have I2 := Lib.hid ((HBS.out.below b12).more b12.size)
  have HK : Hid (∀ W, Below W2.heap.size W2 W → W.cell? ⟨w2.heap.size, 0, none⟩ = some (.slice A3 m c3)) := fun W hb => (hb.cell (World.block_lt_of_cell? W2 _ x2)).trans x2
  have HNL : Hid (m = D.length) := hD2.len
  have hm60 : m ≤ 60 := by rw [HNL.out]; exact HLD.out
  have BR := Lib.hid (Below.refl W2.heap.size W2)
  have sW2 := bW2.size
  obtain ⟨X2, hX2⟩ : ∃ X, W2.drew.alloc (.cells #[] 5) = X := ⟨_, rfl⟩
  have bX2 : Below W2.heap.size W2 X2 := by rw [← hX2]; exact ((Below.refl W2.heap.size W2).drew).alloc (Nat.le_refl _) _
  have HX2 := Lib.hid bX2
  have HO2 : Hid (Own8 X2 W2.heap.size 5 (.slice (some ⟨W2.heap.size, 0, none⟩) 0 0) []) := by rw [← hX2]; exact Own8.lit W2.drew (0, 0) rfl
  have I2X := Lib.hid ((I2.out.below bX2).more bX2.size)
  have hsX := bX2.size
  have KE : Hid (∀ W v, Own8 W W2.heap.size 5 v l → Below W2.heap.size W2 W → Calls Try.prog 33 #[.agg #[.slice A3 m c3], v] W fun e w' => ∃ v', e = .returned v' ∧ Own8 w' W2.heap.size 5 v' (l ++ E) ∧ Below W2.heap.size W2 w') := fun W v ho hb =>
    (encode_any A3 m c3 D v l W2.heap.size ⟨HNL.out, fun x hx => by have := HZD.out x hx; omega⟩ (by omega) W (by have := HL2.out; omega) (((D2.out.keep hb).cs).more (Nat.le_refl _) |> fun h => (D2.out.cs).below hb) ho hb.size).mono fun e w' ⟨v', e1, o1, b1⟩ => ⟨v', e1, by rw [HE.out]; exact o1, hb.trans b1⟩
  clear hD2 b2 bW2 x2 b12 b1 C1 bX2
  go_wp2_with fail
  go_region_held3 (fun W => W.cell? ⟨w2.heap.size, 0, none⟩ = some (.slice A3 m c3))
    (first | exact HK.out _ BR.out.drew | (rw [hX2]; exact HK.out _ HX2.out) | exact HK.out _ (by assumption))
    (first
      | (refine step_append8 X2 rfl (.tmp 28) (.tmp 29) rfl W2.heap.size _ [] rfl HO2.out A2 n2 c2 X2.heap.size l rfl HL2.out I2X.out (by have := HL2.out; simp only [List.length_nil]; omega) hsX ?_; intro v4 w4 hown4 hg4; have hb4 := HO2.out.grow (Nat.le_refl _) HX2.out hsX hg4; rw [List.nil_append] at hown4)
      | (go_at_call 33; (with_reducible refine (KE.out _ _ (by assumption) (by assumption)).mono ?_); rintro e w5 ⟨v5, rfl, hown5, hb5⟩))
  obtain ⟨Ax, cx, rfl, hcx, hcm, hbx, _⟩ := hown5.form
  obtain ⟨LX, hLX⟩ : ∃ L, L = (l ++ E).length := ⟨_, rfl⟩
  have hLXe : LX = n2 + LE := by rw [hLX, List.length_append, HL2.out, HLE.out]
  rw [← hLX] at hcx ⊢
  obtain ⟨A6, hfrom, hb6⟩ := hbx.from_ LX cx n2 hLX (by omega) hcx
  obtain ⟨hto, hb7⟩ := hbx.to_ LX cx n2 hLX (by omega) hcx
  rw [show (l ++ E).drop n2 = E from by rw [HL2.out]; exact List.drop_left] at hb6
  rw [show (l ++ E).take n2 = l from by rw [HL2.out]; exact List.take_left] at hb7
  have e6 : LX - n2 = LE := by omega
  rw [e6] at hfrom
  have HB6 := Lib.hid hb6
  have HB7 := Lib.hid hb7
  have HB5 := Lib.hid hb5
  have HBX := Lib.hid hbx
  have HLX := Lib.hid hLX
  have HTO := Lib.hid hto
  unfold maxLen at hcm
  have HLXE := Lib.hid hLXe
  clear hLXe hown5 hbx hb6 hb7 hb5 hLX hown4 hg4 hb4 hX2 HX2 HO2 I2X KE hsX e6 hto
  go_wp2_with fail
  with_reducible refine (read_o A6 LE _ E _ HLE.out (by have := HLE.out; omega) HB6.out).mono ?_
  rintro e w6 ⟨R, rfl, hrd, b6, hR1, hR2⟩
  obtain ⟨P, hP⟩ : ∃ P : Nat → Prop, P = (fun b => w5.heap.size ≤ b ∧ b < R) := ⟨_, rfl⟩
  rw [← hP] at hrd
  have HRD := Lib.hid hrd
  have HB56 := Lib.hid b6
  have HNF : Hid (∀ (N : Nat) (r : List UInt8), rdN E E.length = some (N, r) → N ≤ 1000) := fun N r h => by
    have e := HE.out
    rw [e] at h
    refine count_part (k := (eD D).length) HLD.out (N := N) (r := r) ?_
    rw [List.take_length]
    exact h
  clear hrd b6 hP hfrom
  go_wp2_with fail
  with_reducible refine (decode_any R P E (by have := HLE.out; omega) HNF _ HRD.out).mono ?_
  rintro e w7 hd
  obtain ⟨A7, n7, c7, rfl, hdt, hrd7, bx⟩ := hd.2 D [] HDE.out
  obtain rfl : n7 = m := hdt.len.trans HNL.out.symm
  obtain ⟨W7, hW7⟩ : ∃ W, w7.alloc (.cells #[.slice A7 n7 c7] 55) = W := ⟨_, rfl⟩
  have bW7 : Below w7.heap.size w7 W7 := by rw [← hW7]; exact (Below.refl _ _).alloc (Nat.le_refl _) _
  have x7 : W7.cell? ⟨w7.heap.size, 0, none⟩ = some (.slice A7 n7 c7) := by rw [← hW7]; exact cell_new4 _ _ _
  have b67 : Below R w6 w7 := bx.below (by omega)
  have b57 : Below w5.heap.size w5 W7 := HB56.out.trans ((b67.mono hR1).trans (bW7.mono (by have := b67.size; omega)))
  have b27 : Below W2.heap.size W2 W7 := HB5.out.trans (b57.mono HB5.out.size)
  have D7 := Lib.hid (hdt.keep bW7)
  have hRl := hrd7.lt
  have HRD7 : Hid (∀ W, Below W7.heap.size W7 W → RdO W R 0 P [] 0) := fun W hb => by
    have k : Below w7.heap.size w7 W := bW7.trans (hb.mono bW7.size)
    exact hrd7.keepB k hRl fun b hb => (hrd7.1 b hb).2
  have HK7 : Hid (∀ W, Below W7.heap.size W7 W → W.cell? ⟨w2.heap.size, 0, none⟩ = some (.slice A3 n7 c3) ∧ W.cell? ⟨w7.heap.size, 0, none⟩ = some (.slice A7 n7 c7)) := fun W hb => ⟨HK.out W (b27.trans (hb.mono b27.size)), (hb.cell (World.block_lt_of_cell? W7 _ x7)).trans x7⟩
  have B57 := Lib.hid b57
  have B27 := Lib.hid b27
  have hmx : Try.prog.follows .mixedOrders = true := by kernel_rfl
  obtain ⟨sl, hsl⟩ : ∃ sl, sl = (⟨l.toArray⟩ : ByteArray) := ⟨_, rfl⟩
  have cv1 : ∀ p : WB W7.heap.size W7, (convert 25 9 (.slice Ax n2 cx)).run Try.prog p.w = .ok (.string sl) p.w := fun p => by
    rw [hsl]
    exact ((HB7.out.below b57).more b57.size |>.below p.ok).conv _ _ HL2.out
  have cv2 : ∀ p : WB W7.heap.size W7, (convert 25 9 (.slice A2 n2 c2)).run Try.prog p.w = .ok (.string sl) p.w := fun p => by
    rw [hsl]
    exact ((I2.out.below b27).more b27.size |>.below p.ok).conv _ _ HL2.out
  have l1 : ∀ p : WB W7.heap.size W7, p.w.cell? ⟨w2.heap.size, 0, none⟩ = some (.slice A3 n7 c3) := fun p => (HK7.out p.w p.ok).1
  have l2 : ∀ p : WB W7.heap.size W7, p.w.cell? ⟨w7.heap.size, 0, none⟩ = some (.slice A7 n7 c7) := fun p => (HK7.out p.w p.ok).2
  have KEnd : Hid (∀ p : WB W7.heap.size W7, Calls Try.prog 36 #[.pointer (some ⟨R, 0, none⟩)] p.w fun e w' => e = .returned (.int .i64 0) ∧ Below p.w.heap.size p.w w') := fun p => (end_o R 0 P [] p.w (HRD7.out p.w p.ok)).mono fun e w' h => ⟨h.1, by rw [← h.2]; exact Below.refl _ _⟩
  have KL1 : Hid (∀ p : WB W7.heap.size W7, Calls Try.prog 30 #[.agg #[.slice A3 n7 c3]] p.w fun e w' => e = .returned (.int .i64 n7) ∧ Below p.w.heap.size p.w w') := fun p => len_any _ _ _ _
  have KL2 : Hid (∀ p : WB W7.heap.size W7, Calls Try.prog 30 #[.agg #[.slice A7 n7 c7]] p.w fun e w' => e = .returned (.int .i64 n7) ∧ Below p.w.heap.size p.w w') := fun p => len_any _ _ _ _
  have hto := HTO.out
  have hqq : ((n7 : Int) != (n7 : Int)) = false := by simp
  clear hd hdt hrd7 bx bW7 x7 b67 b57 b27 hRl hsl
  go_wp2_with fail
  refine wp_region_quietB W7.heap.size W7 hmx (by kernel_rfl) (Below.refl _ _) ?_
  repeat (go_big_quiet_step ((first
    | (go_at_call 36; with_reducible exact calls_quietB (KEnd.out _) (Nat.le_refl _))
    | (go_at_call 30; with_reducible exact calls_quietB (KL1.out _) (Nat.le_refl _))
    | (go_at_call 30; with_reducible exact calls_quietB (KL2.out _) (Nat.le_refl _)))))
  refine wpQuiet_nil ?_
  intro _ hw'
  obtain ⟨pq, rfl⟩ := hw'
  have PQ := Lib.hid pq.ok
  clear cv1 cv2 l1 l2 KEnd KL1 KL2 hto hqq
  go_wp2_with fail
  go_loopw [12] (fun s12 wr => ∃ k : Nat, k ≤ n7 ∧ s12 = .int .i64 k ∧ Below W7.heap.size W7 wr) (fun i _ => n7 - (intOf i).toNat)
  case atStart => exact ⟨0, Nat.zero_le _, rfl, PQ.out⟩
  case round =>
    obtain ⟨k, hk, rfl, hb⟩ := hrel
    obtain ⟨y1, y2⟩ := HK7.out wr hb
    by_cases hlt : k < n7
    · have hltI : (k : Int) < (n7 : Int) := by omega
      have hkd : k < D.length := by rw [← HNL.out]; exact hlt
      obtain ⟨x, hx⟩ : ∃ x, x = D[k] := ⟨_, rfl⟩
      have HX : Hid (D[k]? = some x) := by show _ = _; rw [hx]; exact List.getElem?_eq_getElem _
      obtain ⟨sx, hsx⟩ : ∃ sx, sx = (⟨x.toArray⟩ : ByteArray) := ⟨_, rfl⟩
      have HSX := Lib.hid hsx
      clear hx hsx
      go_wp2_with fail
      with_reducible refine (len_any _ _ _ _).mono ?_
      rintro e w8 ⟨rfl, b8⟩
      have hb8 := hb.trans (b8.mono hb.size)
      have HB8 := Lib.hid hb8
      have l1 : ∀ p : WB w8.heap.size w8, p.w.cell? ⟨w2.heap.size, 0, none⟩ = some (.slice A3 n7 c3) := fun p => (HK7.out p.w (HB8.out.trans (p.ok.mono HB8.out.size))).1
      have l2 : ∀ p : WB w8.heap.size w8, p.w.cell? ⟨w7.heap.size, 0, none⟩ = some (.slice A7 n7 c7) := fun p => (HK7.out p.w (HB8.out.trans (p.ok.mono HB8.out.size))).2
      have K1 : Hid (∀ p : WB w8.heap.size w8, Calls Try.prog 31 #[.agg #[.slice A3 n7 c3], .int .i64 k] p.w fun e w' => e = .returned (.string sx) ∧ Below p.w.heap.size p.w w') := fun p => by
        rw [HSX.out]
        exact word_is A3 n7 c3 D k x HX _ (D2.out.keep (B27.out.trans ((HB8.out.trans (p.ok.mono HB8.out.size)).mono B27.out.size)))
      have K2 : Hid (∀ p : WB w8.heap.size w8, Calls Try.prog 31 #[.agg #[.slice A7 n7 c7], .int .i64 k] p.w fun e w' => e = .returned (.string sx) ∧ Below p.w.heap.size p.w w') := fun p => by
        rw [HSX.out]
        exact word_is A7 n7 c7 D k x HX _ (D7.out.keep (HB8.out.trans (p.ok.mono HB8.out.size)))
      clear y1 y2 b8 hb8 hb
      go_wp2_with fail
      refine wp_region_quietB w8.heap.size w8 hmx (by kernel_rfl) (Below.refl _ _) ?_
      repeat (go_big_quiet_step ((first
        | (go_at_call 31; with_reducible exact calls_quietB (K1.out _) (Nat.le_refl _))
        | (go_at_call 31; with_reducible exact calls_quietB (K2.out _) (Nat.le_refl _)))))
      refine wpQuiet_nil ?_
      intro _ hw'
      obtain ⟨pq2, rfl⟩ := hw'
      go_wp2_with fail
      exact ⟨⟨k + 1, by omega, by go_num, HB8.out.trans (pq2.ok.mono HB8.out.size)⟩, by simp [intOf]; omega⟩
    · have hltI : ¬ (k : Int) < (n7 : Int) := by omega
      obtain ⟨cN, hcN, hcL⟩ := cut_mod cut LE hLE0
      go_wp2_with fail
      with_reducible refine (len_any _ _ _ _).mono ?_
      rintro e w8 ⟨rfl, b8⟩
      have hb8 := hb.trans (b8.mono hb.size)
      have HB8 := Lib.hid hb8
      have q1 : IntKind.i64.wrap ((LX : Int) - (n2 : Int)) = (LE : Int) := by have := HLXE.out; rw [IntKind.wrap_i64]; omega
      have hLEn : ¬ (LE : Int) = 0 := by omega
      have hLEb : ((LE : Int) == 0) = false := by simp; omega
      obtain ⟨bb, oo, rfl, hbb, hcell⟩ := HBX.out (by have := HLX.out; have := HLXE.out; omega)
      have q2 : (n2 : Int) + (cN : Int) ≤ (cx : Int) := by have := HLXE.out; omega
      have hne : ¬ cx = n2 := by have := HLXE.out; omega
      have hET : (E.take cN).length = cN := by rw [List.length_take, ← HLE.out]; omega
      have HET := Lib.hid hET
      have b58 := B57.out.trans (hb8.mono B57.out.size)
      have HBE : Hid (BS w8 w8.heap.size (some ⟨bb, oo + n2, none⟩) (E.take cN)) := fun _ => ⟨bb, oo + n2, rfl, by have := b58.size; omega, fun j hj => by
        rw [hET] at hj
        have h1 := (b58.cell (p := ⟨bb, oo + (n2 + j), none⟩) hbb).trans (hcell (n2 + j) (by have := HLX.out; have := HLXE.out; omega))
        rw [Nat.add_assoc, h1]
        congr 2
        unfold at8
        rw [List.getElem?_append_right (by have := HL2.out; omega), List.getElem?_take_of_lt hj, show n2 + j - l.length = j by have := HL2.out; omega]⟩
      have HDN : Hid (dD (E.take cN) = none) := by
        show _ = _
        rw [HE.out]
        exact dD_cut D HR.out (fun x hx => by have := HZD.out x hx; omega) (by have := HLD.out; omega) cN (by rw [← HE.out, ← HLE.out]; exact hcL)
      have HNF2 : Hid (∀ (N : Nat) (r : List UInt8), rdN (E.take cN) (E.take cN).length = some (N, r) → N ≤ 1000) := fun N r h => by
        have e := HE.out
        rw [e] at h
        exact count_part (k := cN) HLD.out h
      clear y1 y2 b8 hb8 hb hcell hET b58
      go_wp2_with fail
      with_reducible refine (read_o _ cN _ (E.take cN) _ HET.out.symm (by rw [HET.out]; omega) HBE.out).mono ?_
      rintro e w9 ⟨R2, rfl, hrd, b9, hR3, hR4⟩
      obtain ⟨P2, hP⟩ : ∃ P2 : Nat → Prop, P2 = (fun b => w8.heap.size ≤ b ∧ b < R2) := ⟨_, rfl⟩
      rw [← hP] at hrd
      have HRD9 := Lib.hid hrd
      have HB9 := Lib.hid b9
      clear hrd b9 hP
      go_wp2_with fail
      with_reducible refine (decode_any R2 P2 (E.take cN) (by rw [HET.out]; omega) HNF2 _ HRD9.out).mono ?_
      rintro e w10 hd
      obtain ⟨rfl, bx⟩ := hd.1 HDN.out
      have b27' := B27.out.trans ((HB8.out.trans ((HB9.out.trans ((bx.below (by omega)).mono hR3)).mono HB8.out.size)).mono B27.out.size)
      have B10 := Lib.hid (B2.out.trans (b27'.mono B2.out.size))
      clear hd bx b27'
      go_wp2_with fail
      with_reducible refine (len_any _ _ _ _).mono ?_
      rintro e w11 ⟨rfl, b11⟩
      go_wp2_with fail
      go_ret
      exact ⟨rfl, (B10.out.alloc (by have := B10.out.size; omega) _).trans (b11.mono (by have := B10.out.size; simp; omega))⟩
end Go.Proofs.Ytgpdpmbgadjooaa
