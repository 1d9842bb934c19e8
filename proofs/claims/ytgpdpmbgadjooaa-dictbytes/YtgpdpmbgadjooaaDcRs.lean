/- DictReads answers true. -/
import Derived.Test.YtgpdpmbgadjooaaDcDe
import Derived.Test.YtgpdpmbgadjooaaQuB
import Derived.Deep.RegionHeld3
namespace Go.Proofs.Ytgpdpmbgadjooaa
open Go.RowKit Go.Sort
set_option maxRecDepth 100000

theorem cell_new4 (w : World) (v : Value) (t : TypeId) : (w.alloc (.cells #[v] t)).cell? ⟨w.heap.size, 0, none⟩ = some v := by
  have z := new_cells w #[v] t (0, 0) 0 v rfl
  rwa [add_addr, Nat.zero_add] at z
/-- What was read of bytes is laid as these. -/
theorem dD_part {l : B8} {ws : List B8} {r : B8} (h : dD l = some (ws, r)) : l.take (l.length - r.length) = eD ws := by
  obtain ⟨e, _⟩ := dD_some h
  rw [e, List.length_append, Nat.add_sub_cancel]
  exact List.take_left
theorem read_big {l : B8} {N : Nat} {r : B8} {m : Nat} (h : rdN l l.length = some (N, r)) (hl : l.length ≤ m) : N ≤ m := Nat.le_trans (rdN_some h).2.1 hl
set_option maxHeartbeats 1000000 in
theorem dr_long (A : Option Addr) (n c : Nat) (hn : 300 < n) (hnm : n ≤ 9223372036854775807) (w : World) :
    Calls Try.prog 12 #[.slice A n c] w fun e w' => e = .returned (.bool true) ∧ Below w.heap.size w w' := by
  have hn' : (300 : Int) < (n : Int) := by omega
  go_enter Try.func12, Try.ntmps12
  go_wp2_with fail
  with_reducible refine (head_any _).mono ?_
  rintro e w1 ⟨rfl, b1⟩
  go_wp2_with fail
  go_ret
  exact ⟨rfl, b1⟩
set_option maxHeartbeats 4000000 in
theorem dr_any (A : Option Addr) (n c : Nat) (l : B8) (HL : Hid (n = l.length)) (hn : n ≤ 300) (hnc : n ≤ c) (w : World) (hI : BS w w.heap.size A l) :
    Calls Try.prog 12 #[.slice A n c] w fun e w' => e = .returned (.bool true) ∧ Below w.heap.size w w' := by
  have hn' : ¬ (300 : Int) < (n : Int) := by omega
  have HB := Lib.hid hI
  have HLE : Hid (l.length ≤ 300) := by show _ ≤ _; rw [← HL.out]; exact hn
  clear hI
  go_enter Try.func12, Try.ntmps12
  go_wp2_with fail
  with_reducible refine (head_any _).mono ?_
  rintro e w1 ⟨rfl, b1⟩
  have HB1 := Lib.hid ((HB.out.below b1).more b1.size)
  go_wp2_with fail
  with_reducible refine (read_o A n c l _ HL.out (by have := HLE.out; omega) HB1.out).mono ?_
  rintro e w2 ⟨R, rfl, hrd, b2, hR1, hR2⟩
  obtain ⟨P, hP⟩ : ∃ P : Nat → Prop, P = (fun b => w1.heap.size ≤ b ∧ b < R) := ⟨_, rfl⟩
  rw [← hP] at hrd
  have HRD := Lib.hid hrd
  have B2 := Lib.hid (b1.trans (b2.mono b1.size))
  have hb1 := b1.size
  clear hrd b2 hP
  go_wp2_with fail
  have HNF : Hid (∀ (N : Nat) (r : List UInt8), rdN l l.length = some (N, r) → N ≤ 1000) := fun N r h => by have := read_big h HLE.out; omega
  with_reducible refine (decode_any R P l (by have := HLE.out; omega) HNF _ HRD.out).mono ?_
  rintro e w3 hd
  cases hD : dD l with
  | none =>
    obtain ⟨rfl, bx⟩ := hd.1 hD
    have B3 := Lib.hid (B2.out.trans ((bx.below (by omega)).mono (by omega)))
    clear hd hD bx
    go_wp2_with fail
    first
    | (with_reducible refine (len_any _ _ _ _).mono ?_
       rintro e w4 ⟨rfl, b4⟩
       go_wp2_with fail
       go_ret
       exact ⟨rfl, (B3.out.alloc (by have := B3.out.size; omega) _).trans (b4.mono (by have := B3.out.size; simp; omega))⟩)
    | fail "A"
  | some pr =>
    obtain ⟨ws, rest⟩ := pr
    obtain ⟨A2, n2, c2, rfl, hdt, hrd3, bx⟩ := hd.2 ws rest hD
    have HPT := Lib.hid (dD_part hD)
    have hrl : rest.length ≤ l.length := by have := (dD_some hD).1; rw [this]; simp
    obtain ⟨hws, hwl, hwn⟩ := (dD_some hD).2
    have HWS := Lib.hid hws
    have HWZ : Hid (∀ x ∈ ws, x.length ≤ 1000) := fun x hx => by have := hwl x hx; have := HLE.out; omega
    have b3 := B2.out.trans ((bx.below (by omega)).mono (by omega : w.heap.size ≤ R))
    obtain ⟨W3, hW3⟩ : ∃ W3, w3.alloc (.cells #[.slice A2 n2 c2] 55) = W3 := ⟨_, rfl⟩
    have bW3 : Below w3.heap.size w3 W3 := by rw [← hW3]; exact (Below.refl _ _).alloc (Nat.le_refl _) _
    have x3 : W3.cell? ⟨w3.heap.size, 0, none⟩ = some (.slice A2 n2 c2) := by rw [← hW3]; exact cell_new4 _ _ _
    have HDT := Lib.hid (hdt.keep bW3)
    have hRl := hrd3.lt
    have HRD3 : Hid (∀ W, Below W3.heap.size W3 W → RdO W R 0 P rest 0) := fun W hb => by
      have k : Below w3.heap.size w3 W := bW3.trans (hb.mono bW3.size)
      exact hrd3.keepB k hRl fun b hb => (hrd3.1 b hb).2
    have HK : Hid (∀ W, Below W3.heap.size W3 W → W.cell? ⟨w3.heap.size, 0, none⟩ = some (.slice A2 n2 c2)) := fun W hb => (hb.cell (World.block_lt_of_cell? W3 _ x3)).trans x3
    have B3 := Lib.hid (b3.trans (bW3.mono b3.size))
    have HNL : Hid (n2 = ws.length) := hdt.len
    have hn2 : n2 ≤ 1000 := hdt.few
    have HI3 := Lib.hid ((HB.out.below B3.out).more B3.out.size)
    have HRL := Lib.hid hrl
    have hmx : Try.prog.follows .mixedOrders = true := by kernel_rfl
    clear hd hD bx hdt hws hwl hwn b3 bW3 x3 hRl hrd3 hrl HB HB1 HRD B2 b1 hb1
    go_wp2_with fail
    go_loopw [6] (fun s6 wr => ∃ k : Nat, 1 ≤ k ∧ (k ≤ n2 ∨ k = 1) ∧ s6 = .int .i64 k ∧ Below W3.heap.size W3 wr) (fun i _ => n2 + 1 - (intOf i).toNat)
    case atStart => exact ⟨1, Nat.le_refl _, .inr rfl, rfl, Below.refl _ _⟩
    case round =>
      obtain ⟨k, hk1, hk, rfl, hb⟩ := hrel
      have y1 := HK.out wr hb
      have HBW := Lib.hid hb
      by_cases hlt : k < n2
      · have hltI : (k : Int) < (n2 : Int) := by omega
        obtain ⟨j, rfl⟩ : ∃ j, k = j + 1 := ⟨k - 1, by omega⟩
        have hkw : j + 1 < ws.length := by rw [← HNL.out]; exact hlt
        have hlt2 := rises_at HWS.out j (j + 1) (by omega) hkw
        obtain ⟨x, hx⟩ : ∃ x, x = ws[j] := ⟨_, rfl⟩
        obtain ⟨y, hy⟩ : ∃ y, y = ws[j + 1] := ⟨_, rfl⟩
        rw [← hx, ← hy] at hlt2
        have HX : Hid (ws[j]? = some x) := by show _ = _; rw [hx]; exact List.getElem?_eq_getElem _
        have HY : Hid (ws[j + 1]? = some y) := by show _ = _; rw [hy]; exact List.getElem?_eq_getElem _
        obtain ⟨q, hq⟩ : ∃ q : Int, q = ((j + 1 : Nat) : Int) := ⟨_, rfl⟩
        have HQ := Lib.hid hq
        rw [← hq] at hltI ⊢
        have q1 : IntKind.i64.wrap (q - 1) = (j : Int) := by rw [IntKind.wrap_i64]; omega
        have q2 : IntKind.i64.wrap (q + 1) = q + 1 := by rw [IntKind.wrap_i64]; omega
        have hge : Op.bytesLess (⟨x.toArray⟩ : ByteArray).toList (⟨y.toArray⟩ : ByteArray).toList = true := by rw [str_lt]; exact decide_eq_true hlt2
        clear hx hy hq hlt2
        go_wp2_with fail
        with_reducible refine (len_any _ _ _ _).mono ?_
        rintro e w4 ⟨rfl, b4⟩
        have hb4 := hb.trans (b4.mono hb.size)
        have HB4 := Lib.hid hb4
        have l1 : ∀ p : WB w4.heap.size w4, p.w.cell? ⟨w3.heap.size, 0, none⟩ = some (.slice A2 n2 c2) := fun p => HK.out p.w (HB4.out.trans (p.ok.mono HB4.out.size))
        have KX : Hid (∀ p : WB w4.heap.size w4, Calls Try.prog 31 #[.agg #[.slice A2 n2 c2], .int .i64 j] p.w fun e w' => e = .returned (.string ⟨x.toArray⟩) ∧ Below p.w.heap.size p.w w') := fun p => word_is A2 n2 c2 ws j x HX _ (HDT.out.keep (HB4.out.trans (p.ok.mono HB4.out.size)))
        have KY : Hid (∀ p : WB w4.heap.size w4, Calls Try.prog 31 #[.agg #[.slice A2 n2 c2], .int .i64 q] p.w fun e w' => e = .returned (.string ⟨y.toArray⟩) ∧ Below p.w.heap.size p.w w') := fun p => by rw [HQ.out]; exact word_is A2 n2 c2 ws (j + 1) y HY _ (HDT.out.keep (HB4.out.trans (p.ok.mono HB4.out.size)))
        obtain ⟨sx, hsx⟩ : ∃ sx, sx = (⟨x.toArray⟩ : ByteArray) := ⟨_, rfl⟩
        obtain ⟨sy, hsy⟩ : ∃ sy, sy = (⟨y.toArray⟩ : ByteArray) := ⟨_, rfl⟩
        rw [← hsx, ← hsy] at hge
        rw [← hsx] at KX
        rw [← hsy] at KY
        clear y1 hb hb4 b4 hsx hsy
        go_wp2_with fail
        refine wp_region_quietB w4.heap.size w4 hmx (by kernel_rfl) (Below.refl _ _) ?_
        repeat (go_big_quiet_step ((first | (go_at_call 31; with_reducible exact calls_quietB (KX.out _) (Nat.le_refl _)) | (go_at_call 31; with_reducible exact calls_quietB (KY.out _) (Nat.le_refl _)))))
        refine wpQuiet_nil ?_
        intro _ hw'
        obtain ⟨pq, rfl⟩ := hw'
        go_wp2_with fail
        exact ⟨⟨j + 1 + 1, by omega, .inl (by omega), by rw [HQ.out]; go_num, HB4.out.trans (pq.ok.mono HB4.out.size)⟩, by rw [HQ.out]; simp [intOf]; omega⟩
      · have hltI : ¬ (k : Int) < (n2 : Int) := by omega
        go_wp2_with fail
        with_reducible refine (len_any _ _ _ _).mono ?_
        rintro e w4 ⟨rfl, b4⟩
        have hb4 := hb.trans (b4.mono hb.size)
        have HB4 := Lib.hid hb4
        have y4 := HK.out w4 hb4
        obtain ⟨m, hm⟩ : ∃ m, m = rest.length := ⟨_, rfl⟩
        have hmn : m ≤ n := by rw [hm, HL.out]; exact HRL.out
        have HM := Lib.hid hm
        obtain ⟨hto, hbt⟩ := (HI3.out.below hb4).to_ n c (n - m) HL.out (by omega) hnc
        have HBT : Hid (BS w4 w4.heap.size A (eD ws)) := by
          have := hbt.more hb4.size
          rw [← HPT.out, ← HL.out, ← HM.out]
          exact this
        obtain ⟨t, ht⟩ : ∃ t, t = n - m := ⟨_, rfl⟩
        rw [← ht] at hto
        have q3 : IntKind.i64.wrap ((n : Int) - (m : Int)) = (t : Int) := by rw [IntKind.wrap_i64]; omega
        have BR := Lib.hid (Below.refl w4.heap.size w4)
        have HTL : Hid (t = (eD ws).length) := by
          show _ = _
          rw [ht, ← HPT.out, List.length_take, ← HL.out, ← HM.out]
          omega
        have HS : Hid (∀ W, Below w4.heap.size w4 W → W.cell? ⟨w3.heap.size, 0, none⟩ = some (.slice A2 n2 c2) ∧ (convert 25 9 (.slice A t c)).run Try.prog W = .ok (.string ⟨(eD ws).toArray⟩) W) := fun W hb => ⟨HK.out W (HB4.out.trans (hb.mono HB4.out.size)), (HBT.out.below hb).conv _ _ HTL.out⟩
        obtain ⟨se, hse⟩ : ∃ se, se = (⟨(eD ws).toArray⟩ : ByteArray) := ⟨_, rfl⟩
        have KL : Hid (∀ W, Below w4.heap.size w4 W → Calls Try.prog 37 #[.pointer (some ⟨R, 0, none⟩)] W fun e w' => e = .returned (.int .i64 m) ∧ W = w') := fun W hb => by rw [HM.out]; exact left_o R 0 P rest 0 W (HRD3.out W (HB4.out.trans (hb.mono HB4.out.size)))
        have KE : Hid (∀ W, Below w4.heap.size w4 W → Calls Try.prog 33 #[.agg #[.slice A2 n2 c2], .slice none 0 0] W fun e w' => ∃ A' L c', e = .returned (.slice A' L c') ∧ (convert 25 9 (.slice A' L c')).run Try.prog w' = .ok (.string se) w' ∧ Below w4.heap.size w4 w') := fun W hb =>
          (encode_any A2 n2 c2 ws (.slice none 0 0) [] W.heap.size ⟨HNL.out, HWZ.out⟩ hn2 W (by simp) ((HDT.out.keep (HB4.out.trans (hb.mono HB4.out.size))).cs) (Own8.nil _ _ _) (Nat.le_refl _)).mono fun e w' ⟨v', e1, o1, b1⟩ => by
            obtain ⟨A', c', rfl, _, _, hbs, _⟩ := o1.form
            rw [List.nil_append] at hbs e1
            exact ⟨A', _, c', e1, by rw [hse]; exact hbs.conv _ _ rfl, hb.trans (b1.mono hb.size)⟩
        rw [← hse] at HS
        clear y1 hb hb4 b4 hbt hm ht hse y4 hmn
        go_wp2_with fail
        go_region_held (fun W => W.cell? ⟨w3.heap.size, 0, none⟩ = some (.slice A2 n2 c2) ∧ (convert 25 9 (.slice A t c)).run Try.prog W = .ok (.string se) W)
          (first | exact HS.out _ BR.out.drew | exact HS.out _ (by assumption))
          (first
            | (go_at_call 33; (with_reducible refine (KE.out _ ?_).mono ?_); (first | exact BR.out.drew | assumption); rintro e wm ⟨Ae, Le, ce, rfl, hcv, hbm⟩)
            | (go_at_call 37; (with_reducible refine (KL.out _ ?_).mono ?_); (first | exact BR.out.drew | assumption); rintro e wl ⟨rfl, rfl⟩))
        all_goals (go_wp2_with fail)
        all_goals go_ret
        all_goals exact ⟨by simp, (B3.out.trans (HB4.out.mono B3.out.size)).trans (hbm.mono (by have := B3.out.size; have := HB4.out.size; omega))⟩
end Go.Proofs.Ytgpdpmbgadjooaa
