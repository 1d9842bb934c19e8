/- PostCuts answers true. -/
import Derived.Test.YtjigaoclngfcaaaPoCt
import Derived.Test.YtjigaoclngfcaaaPoRl
import Derived.Test.YtjigaoclngfcaaaMem3
namespace Go.Proofs.Ytjigaoclngfcaaa
open Go.RowKit
set_option maxRecDepth 100000

theorem cut_modP (a : Int) (m : Nat) (hm : 0 < m) : ∃ k : Nat, (bits .and .i64 a 65535).tmod (m : Int) = (k : Int) ∧ k < m := by
  have e : bits .and .i64 a 65535 = IntKind.i64.wrap ((BitVec.ofInt 64 a &&& BitVec.ofInt 64 65535).toNat : Int) := rfl
  obtain ⟨q, hq⟩ : ∃ q : Nat, bits .and .i64 a 65535 = (q : Int) := by
    refine ⟨(BitVec.ofInt 64 a &&& BitVec.ofInt 64 65535).toNat, ?_⟩
    rw [e, IntKind.wrap_i64]
    have : (BitVec.ofInt 64 a &&& BitVec.ofInt 64 65535).toNat ≤ 65535 := by
      rw [BitVec.toNat_and]
      exact Nat.le_trans Nat.and_le_right (by decide)
    omega
  rw [hq]
  exact ⟨q % m, (Int.ofNat_tmod q m).symm, Nat.mod_lt _ hm⟩
theorem fewH_some {hs : List HI} (h : fewH hs = true) : hs.length ≤ 40 ∧ ∀ x ∈ hs, x.2.length ≤ 20 := by
  unfold fewH at h
  rw [Bool.and_eq_true, List.all_eq_true] at h
  exact ⟨of_decide_eq_true h.2, fun x hx => of_decide_eq_true (h.1 x hx)⟩
theorem one8P (W : World) (x : UInt8) : BS (W.alloc (.cells #[.int .u8 (x.toNat : Int)] 5)) (W.heap.size + 1) (some ⟨W.heap.size, 0, none⟩) [x] := fun _ => by
  refine ⟨W.heap.size, 0, rfl, by omega, fun k hk => ?_⟩
  obtain rfl : k = 0 := by simp at hk; omega
  have z := new_cells W #[.int .u8 (x.toNat : Int)] 5 (0, 0) 0 _ rfl
  rw [addr_add] at z
  exact z
set_option maxHeartbeats 1000000 in
theorem pc_many (A : Option Addr) (n c : Nat) (cut : Int) (more : UInt8) (hs : List HI) (hn : Hid (n = hs.length ∧ fewH hs = false)) (hnm : n ≤ 9223372036854775807) (w : World) (hI : HS w w.heap.size A hs) :
    Calls Try.prog 9 #[.slice A n c, .int .i64 cut, .int .u8 (more.toNat : Int)] w fun e w' => e = .returned (.bool true) ∧ Below w.heap.size w w' := by
  have HCS := Lib.hid hI
  clear hI
  go_enter Try.func9, Try.ntmps9
  go_wp2_with fail
  with_reducible refine (head_any _).mono ?_
  rintro e w1 ⟨rfl, b1⟩
  have KF := Lib.hid (few_any A n c hs hn.out.1 hnm w1 ((HCS.out.below b1).more b1.size))
  rw [hn.out.2] at KF
  go_wp2_with fail
  with_reducible refine KF.out.mono ?_
  rintro e w2 ⟨rfl, b2⟩
  have hb := b1.trans (b2.mono b1.size)
  clear b1 b2 KF
  go_wp2_with fail
  go_ret
  exact ⟨rfl, hb⟩
set_option maxHeartbeats 1000000 in
theorem pc_wrong (A : Option Addr) (n c : Nat) (cut : Int) (more : UInt8) (hs : List HI) (hn : Hid (n = hs.length ∧ fewH hs = true ∧ rgt (-1) hs = false)) (hnm : n ≤ 40) (w : World) (hI : HS w w.heap.size A hs) :
    Calls Try.prog 9 #[.slice A n c, .int .i64 cut, .int .u8 (more.toNat : Int)] w fun e w' => e = .returned (.bool true) ∧ Below w.heap.size w w' := by
  have HCS := Lib.hid hI
  have HSM : Hid (∀ h ∈ hs, h.2.length ≤ 100000) := fun h hh => Nat.le_trans ((fewH_some hn.out.2.1).2 h hh) (by decide)
  clear hI
  go_enter Try.func9, Try.ntmps9
  go_wp2_with fail
  with_reducible refine (head_any _).mono ?_
  rintro e w1 ⟨rfl, b1⟩
  have KF := Lib.hid (few_any A n c hs hn.out.1 (by omega) w1 ((HCS.out.below b1).more b1.size))
  rw [hn.out.2.1] at KF
  go_wp2_with fail
  with_reducible refine KF.out.mono ?_
  rintro e w2 ⟨rfl, b2⟩
  have hb := b1.trans (b2.mono b1.size)
  have KR := Lib.hid (lright_any A n c hs hn.out.1 (by omega) w2 ((HCS.out.below hb).more hb.size) HSM)
  rw [hn.out.2.2] at KR
  have HB := Lib.hid hb
  clear b1 b2 KF hb
  go_wp2_with fail
  with_reducible refine KR.out.mono ?_
  rintro e w3 ⟨rfl, b3⟩
  go_wp2_with fail
  go_ret
  exact ⟨rfl, HB.out.trans (b3.mono HB.out.size)⟩
set_option maxHeartbeats 4000000 in
theorem pc_any (A : Option Addr) (n c : Nat) (cut : Int) (more : UInt8) (hs : List HI) (hn : Hid (n = hs.length ∧ fewH hs = true ∧ rgt (-1) hs = true)) (hnm : n ≤ 40) (hnc : n ≤ c) (w : World) (hI : HS w w.heap.size A hs) :
    Calls Try.prog 9 #[.slice A n c, .int .i64 cut, .int .u8 (more.toNat : Int)] w fun e w' => e = .returned (.bool true) ∧ Below w.heap.size w w' := by
  have HCS := Lib.hid hI
  have HSM : Hid (∀ h ∈ hs, h.2.length ≤ 100000) := fun h hh => Nat.le_trans ((fewH_some hn.out.2.1).2 h hh) (by decide)
  have HSE : Hid (n = hs.length ∧ ∀ h ∈ hs, h.2.length ≤ 6000) := ⟨hn.out.1, fun h hh => Nat.le_trans ((fewH_some hn.out.2.1).2 h hh) (by decide)⟩
  obtain ⟨L, hL⟩ : ∃ L, L = eP hs := ⟨_, rfl⟩
  obtain ⟨l5, l0⟩ := eP_few hs hn.out.2.2 hn.out.2.1
  rw [← hL] at l5 l0
  obtain ⟨m, hm⟩ : ∃ m, m = L.length := ⟨_, rfl⟩
  rw [← hm] at l5 l0
  obtain ⟨k, hk, hkm⟩ := cut_modP cut m l0
  have HL := Lib.hid hL
  have HM := Lib.hid hm
  have HC1 : Hid (isH (L.take k) = false) := by show _ = _; rw [HL.out]; exact isH_cut hs k hn.out.2.2 (by rw [← HL.out, ← HM.out]; exact hkm)
  have HC2 : Hid (isH (L ++ [more]) = false) := by show _ = _; rw [HL.out]; exact isH_more hs [more] hn.out.2.2 (by simp)
  have hmb : ((m : Int) == 0) = false := by simp; omega
  have hm0 : ¬ (m : Int) = 0 := by omega
  have hkw : IntKind.i64.wrap (k : Int) = (k : Int) := by rw [IntKind.wrap_i64]; omega
  clear hI hL hm
  go_enter Try.func9, Try.ntmps9
  go_wp2_with fail
  with_reducible refine (head_any _).mono ?_
  rintro e w1 ⟨rfl, b1⟩
  have KF := Lib.hid (few_any A n c hs hn.out.1 (by omega) w1 ((HCS.out.below b1).more b1.size))
  rw [hn.out.2.1] at KF
  go_wp2_with fail
  with_reducible refine KF.out.mono ?_
  rintro e w2 ⟨rfl, b2⟩
  have hb := b1.trans (b2.mono b1.size)
  have KR := Lib.hid (lright_any A n c hs hn.out.1 (by omega) w2 ((HCS.out.below hb).more hb.size) HSM)
  rw [hn.out.2.2] at KR
  have HB := Lib.hid hb
  clear b1 b2 KF hb
  go_wp2_with fail
  with_reducible refine KR.out.mono ?_
  rintro e w3 ⟨rfl, b3⟩
  have hb := HB.out.trans (b3.mono HB.out.size)
  have KE := Lib.hid (enc_ok A n c hs HSE (by omega) hnc w3 ((HCS.out.below hb).more hb.size) hn.out.2.2)
  have HB3 := Lib.hid hb
  clear b3 KR hb
  go_wp2_with fail
  with_reducible refine KE.out.mono ?_
  rintro e w4 ⟨v7, rfl, o7, b4⟩
  obtain ⟨A7, c7, rfl, hmc, hmm, hbs7, _⟩ := o7.form
  rw [← HL.out] at hbs7
  rw [← HL.out, ← HM.out] at hmc ⊢
  obtain ⟨hto, hb7⟩ := hbs7.to_ m c7 k HM.out (by omega) hmc
  have hlk : (L.take k).length = k := by rw [List.length_take, ← HM.out]; omega
  have KD := Lib.hid (decode_any A7 k c7 (L.take k) hlk.symm (by omega) w4 hb7)
  have HB4 := Lib.hid (HB3.out.trans (b4.mono HB3.out.size))
  have HBS := Lib.hid hbs7
  clear o7 b4 KE hbs7 hb7 hlk
  go_wp2_with fail
  with_reducible refine KD.out.mono ?_
  rintro e w5 ⟨_, hF, b5⟩
  obtain rfl := hF HC1.out
  have hb5 := HB4.out.trans (b5.mono HB4.out.size)
  have HBS5 := Lib.hid ((HBS.out.below b5).more b5.size)
  obtain ⟨X, hX⟩ : ∃ X, w5.alloc (.cells #[] 5) = X := ⟨_, rfl⟩
  have bX : Below w5.heap.size w5 X := by rw [← hX]; exact (Below.refl _ _).alloc (Nat.le_refl _) _
  have HO : Hid (Own8 X w5.heap.size 5 (.slice (some ⟨w5.heap.size, 0, none⟩) 0 0) []) := by rw [← hX]; exact Own8.lit w5 (0, 0) rfl
  have HBX := Lib.hid ((HBS5.out.below bX).more bX.size)
  have HB5 := Lib.hid (hb5.trans (bX.mono hb5.size))
  have hsX := bX.size
  have hsW := hb5.size
  have HX := Lib.hid hX
  clear hX KD b5 hb5 bX hF hto
  go_wp2_with (first
    | (at_builtin; (rw [HX.out]; refine wpList_append8 X rfl (.tmp 43) (.tmp 44) rfl w5.heap.size _ [] rfl HO.out A7 m c7 X.heap.size L rfl HM.out HBX.out (by rw [← HM.out]; simp only [List.length_nil]; omega) hsX ?_; intro v8 w8 hown8 hg8 _; rw [List.nil_append] at hown8; have hb8 := HO.out.grow (Nat.le_refl _) (Below.refl w5.heap.size X) hsX hg8; have H8 := Lib.hid (And.intro hown8 hb8); clear hown8 hg8 hb8))
    | (at_builtin; (refine wpList_append8 _ rfl (.tmp 45) (.tmp 47) rfl w5.heap.size _ L rfl (H8.out.1.below ((Below.refl _ _).alloc (Nat.le_refl _) _)) (some ⟨w8.heap.size, 0, none⟩) 1 1 (w8.heap.size + 1) [more] rfl rfl (one8P w8 more) (by rw [← HM.out]; simp only [List.length_singleton]; omega) (by have := H8.out.2.size; simp; omega) ?_; intro v9 w9 hown9 hg9 _)))
  obtain ⟨A9, c9, rfl, _, _, hbs9, _⟩ := hown9.form
  have hl9 : (L ++ [more]).length = m + 1 := by rw [List.length_append, ← HM.out]; rfl
  have bA8 : Below w8.heap.size w8 (w8.alloc (.cells #[.int .u8 (more.toNat : Int)] 5)) := (Below.refl _ _).alloc (Nat.le_refl _) _
  have hB89 := (H8.out.1.below bA8).grow (Nat.le_refl _) (Below.refl w5.heap.size _) (by have := H8.out.2.size; have := bA8.size; omega) hg9
  have HB9 := Lib.hid (HB5.out.trans ((H8.out.2.trans ((bA8.mono (by have := H8.out.2.size; omega)).trans hB89)).mono (by have := HB5.out.size; omega)))
  rw [hl9]
  have KD9 := Lib.hid (decode_any A9 (m + 1) c9 (L ++ [more]) hl9.symm (by rw [hl9]; omega) w9 hbs9)
  clear hown9 hg9 hB89 bA8 hbs9 hl9
  go_wp2_with fail
  with_reducible refine KD9.out.mono ?_
  rintro e w10 ⟨_, hF9, b10⟩
  obtain rfl := hF9 HC2.out
  have HB10 := Lib.hid (HB9.out.trans (b10.mono HB9.out.size))
  clear hF9 b10
  go_wp2_with fail
  go_ret
  exact ⟨rfl, HB10.out⟩
end Go.Proofs.Ytjigaoclngfcaaa
