/- xml.Sign; the reader's number. -/
import Derived.Test.YtbehfhdkdekjfaaDoorXmPu
namespace Go.Proofs.YtbehfhdkdekjfaaDoor
open Go.RowKit
set_option maxRecDepth 100000

def okI (r : Int) : Bool := decide (r = 9 ∨ r = 10 ∨ r = 13) || (decide (32 ≤ r) && signB r && decide (r ≠ 65534) && decide (r ≠ 65535))
theorem okI_nat (n : Nat) : okI (n : Int) = okSign n := by
  unfold okI okSign
  rw [signB_nat]
  generalize decide (isSign n) = g
  have e1 : decide ((n : Int) = 9 ∨ (n : Int) = 10 ∨ (n : Int) = 13) = (n == 9 || n == 10 || n == 13) := by
    rw [Bool.eq_iff_iff]
    simp only [Bool.or_eq_true, decide_eq_true_eq, beq_iff_eq]
    omega
  have e2 : decide ((32 : Int) ≤ (n : Int)) = decide (32 ≤ n) := by rw [Bool.eq_iff_iff, decide_eq_true_eq, decide_eq_true_eq]; omega
  have e3 : decide ((n : Int) ≠ 65534) = (n != 65534) := by rw [Bool.eq_iff_iff, decide_eq_true_eq, bne_iff_ne]; omega
  have e4 : decide ((n : Int) ≠ 65535) = (n != 65535) := by rw [Bool.eq_iff_iff, decide_eq_true_eq, bne_iff_ne]; omega
  rw [e1, e2, e3, e4]
set_option maxHeartbeats 1000000 in
theorem xsign_any (r : Int) (w : World) : Calls Tryd.prog 34 #[.int .i32 r] w fun e w' => e = .returned (.bool (okI r)) ∧ w = w' := by
  have hv := fun W => Tryd.utf8_ValidRune r W
  rw [validRune_eq] at hv
  have HVR := Lib.hid hv
  clear hv
  have HO : Hid (okI r = (decide (r = 9 ∨ r = 10 ∨ r = 13) || (decide (32 ≤ r) && signB r && decide (r ≠ 65534) && decide (r ≠ 65535)))) := rfl
  by_cases h1 : r = 9
  · subst h1
    go_enter Tryd.func34, Tryd.ntmps34
    go_wp2_with fail
    go_ret
    exact ⟨by rw [HO.out]; rfl, rfl⟩
  by_cases h2 : r = 10
  · subst h2
    go_enter Tryd.func34, Tryd.ntmps34
    go_wp2_with fail
    go_ret
    exact ⟨by rw [HO.out]; rfl, rfl⟩
  by_cases h3 : r = 13
  · subst h3
    go_enter Tryd.func34, Tryd.ntmps34
    go_wp2_with fail
    go_ret
    exact ⟨by rw [HO.out]; rfl, rfl⟩
  by_cases h4 : r = 65534
  · subst h4
    go_enter Tryd.func34, Tryd.ntmps34
    go_wp2_with fail
    go_ret
    exact ⟨by rw [HO.out]; rfl, rfl⟩
  by_cases h5 : r = 65535
  · subst h5
    go_enter Tryd.func34, Tryd.ntmps34
    go_wp2_with fail
    go_ret
    exact ⟨by rw [HO.out]; rfl, rfl⟩
  have HO2 : Hid (okI r = (decide (32 ≤ r) && signB r)) := by
    show _ = _
    rw [HO.out, decide_eq_false (by omega), decide_eq_true (by omega : r ≠ 65534), decide_eq_true (by omega : r ≠ 65535)]
    simp
  generalize signB r = g at *
  by_cases h6 : 32 ≤ r
  · go_enter Tryd.func34, Tryd.ntmps34
    go_wp2_with fail
    refine (HVR.out _).mono ?_
    rintro e w' ⟨rfl, rfl⟩
    go_wp2_with fail
    go_ret
    exact ⟨ret_bool (by rw [HO2.out, decide_eq_true h6]; rfl), rfl⟩
  · have h7 : r < 32 := by omega
    go_enter Tryd.func34, Tryd.ntmps34
    go_wp2_with fail
    go_ret
    exact ⟨ret_bool (by rw [HO2.out, decide_eq_false (by omega)]; rfl), rfl⟩

/-- What strconv.ParseUint answers. -/
def PubPost (base : Nat) (d : L8) (w : World) (e : Ending) (w' : World) : Prop :=
  Below w.heap.size w w' ∧ ((∃ n : Nat, numX base d = some n ∧ e = .returned (.tuple #[.int .u64 n, .nilIface])) ∨
    (numX base d = none ∧ ∃ (x : Int) (t : TypeId) (p : Value), e = .returned (.tuple #[.int .u64 x, .iface t p])))
set_option maxHeartbeats 1000000 in
theorem pub_any (base : Nat) (hb : base = 10 ∨ base = 16) (d : L8) (hd : d.length ≤ 1000000) (w : World) (hE : Env w) :
    Calls Tryd.prog 94 #[.string (strOf d), .int .i64 base, .int .i64 31] w (PubPost base d w) := by
  have HP : Hid (Calls Tryd.prog 96 #[.string (strOf d), .int .i64 base, .int .i64 31] w (PuPost base d w)) := by
    rcases hb with rfl | rfl
    · exact pu10_any d hd w
    · exact pu16_any d hd w
  have hsz : (strOf d).size ≤ 281474976710656 := by rw [size8]; omega
  have HE := Lib.hid hE
  clear hE hb
  go_enter Tryd.func94, Tryd.ntmps94
  go_wp2_with fail
  refine HP.out.mono ?_
  rintro e w1 ⟨b1, ⟨n, hn, rfl⟩ | ⟨hn, x, c, hc, rfl⟩⟩
  · have HN := Lib.hid hn
    clear hn
    go_wp2_with fail
    go_ret2
    exact ⟨b1, .inl ⟨n, HN.out, rfl⟩⟩
  · have HN := Lib.hid hn
    clear hn
    have hE1 := HE.out.below HE.out.2.2.2.2 b1
    obtain ⟨_, _, ⟨t6, p6, h6⟩, ⟨t7, p7, h7⟩, _⟩ := hE1
    go_wp2_with fail
    rcases hc with rfl | rfl
    · refine (Tryd.strconv_toError_range _ (strOf d) base 31 _ w1 hsz h7 (.inr ⟨t7, p7, rfl⟩)).mono ?_
      rintro e w2 ⟨N, rfl, _, _, b2⟩
      go_wp2_with fail
      go_ret2
      exact ⟨b1.trans (b2.mono b1.size), .inr ⟨HN.out, _, _, _, rfl⟩⟩
    · refine (Tryd.strconv_toError_syntax _ (strOf d) base 31 _ w1 hsz h6 (.inr ⟨t6, p6, rfl⟩)).mono ?_
      rintro e w2 ⟨N, rfl, _, _, b2⟩
      go_wp2_with fail
      go_ret2
      exact ⟨b1.trans (b2.mono b1.size), .inr ⟨HN.out, _, _, _, rfl⟩⟩
theorem numG_le (base : Nat) : ∀ (d : L8) (n m : Nat), n ≤ 2147483647 → numG base d n = some m → m ≤ 2147483647
  | [], n, m, h, e => by unfold numG at e; injection e with e; omega
  | c :: t, n, m, h, e => by
    unfold numG at e
    split at e
    · cases e
    · split at e
      · exact numG_le base t _ m (by omega) e
      · cases e
theorem numX_le {base : Nat} {d : L8} {m : Nat} (h : numX base d = some m) : m ≤ 2147483647 := by
  unfold numX at h
  split at h
  · cases h
  · exact numG_le base d 0 m (by omega) h
/-- What a call answers that reads a sign: the sign, or ErrXML. -/
def SignPost (R : Nat) (o : Option (Nat × L8)) (w : World) (e : Ending) (w' : World) : Prop :=
  Mv w w' R ∧ ((∃ n r, o = some (n, r) ∧ e = .returned (.tuple #[.int .i32 (n : Nat), .int .i64 0]) ∧ Rst w' R r) ∨ (o = none ∧ e = .returned (.tuple #[.int .i32 0, .int .i64 11]) ∧ ∃ l', Rst w' R l'))
set_option maxHeartbeats 1000000 in
theorem number_any (R base : Nat) (hb : base = 10 ∨ base = 16) (l : L8) (hl : l.length ≤ 1000000) (w : World) (h : Rst w R l) (hE : Env w) :
    Calls Tryd.prog 83 #[.pointer (some ⟨R, 0, none⟩), .int .i64 base] w (SignPost R (numberL base l) w) := by
  have HE := Lib.hid hE
  have H := Lib.hid h
  have HI : Hid (numberL base l = match upL [59] l with
    | none => none
    | some (d, r) => match numX base d with
      | none => none
      | some n => if okSign n then some (n, r) else none) := rfl
  clear h hE
  go_enter Tryd.func83, Tryd.ntmps83
  go_wp2_with fail
  cases hu : upL [59] l with
  | none =>
    rw [hu] at HI
    refine (upTo_no R [59] (by simp) hu hl w H.out HE.out).mono ?_
    rintro e w1 ⟨rfl, m1, r1⟩
    clear hu
    go_wp2_with fail
    go_ret2
    exact ⟨m1, .inr ⟨HI.out, rfl, _, r1⟩⟩
  | some x =>
    obtain ⟨d, r⟩ := x
    rw [hu] at HI
    have hul := up_len hu
    refine (upTo_yes R [59] (by simp) hu hl w H.out HE.out).mono ?_
    rintro e w1 ⟨rfl, m1, r1⟩
    have hE1 := HE.out.mv H.out.ge m1
    have hdl : d.length ≤ 1000000 := by omega
    clear hu hul
    go_wp2_with fail
    refine (pub_any base hb d hdl w1 hE1).mono ?_
    rintro e w2 ⟨b2, ⟨n, hn, rfl⟩ | ⟨hn, x, t, p, rfl⟩⟩
    · have hle := numX_le hn
      rw [hn] at HI
      have HS := fun W => Lib.hid (xsign_any (n : Int) W)
      rw [okI_nat] at HS
      have HI2 : Hid (numberL base l = if okSign n then some (n, r) else none) := HI
      clear hn HI
      have m2 := m1.trans (Mv.of r1.lt b2)
      have r2 := r1.below b2
      cases ho : okSign n with
      | true =>
        rw [ho] at HS HI2
        go_wp2_with fail
        refine (HS _).out.mono ?_
        rintro e w3 ⟨rfl, rfl⟩
        go_wp2_with fail
        go_ret2
        exact ⟨m2, .inl ⟨n, r, HI2.out, rfl, r2⟩⟩
      | false =>
        rw [ho] at HS HI2
        go_wp2_with fail
        refine (HS _).out.mono ?_
        rintro e w3 ⟨rfl, rfl⟩
        go_wp2_with fail
        go_ret2
        exact ⟨m2, .inr ⟨HI2.out, rfl, _, r2⟩⟩
    · rw [hn] at HI
      have HI2 : Hid (numberL base l = none) := HI
      clear hn HI
      go_wp2_with fail
      go_ret2
      exact ⟨m1.trans (Mv.of r1.lt b2), .inr ⟨HI2.out, rfl, _, r1.below b2⟩⟩
end Go.Proofs.YtbehfhdkdekjfaaDoor
