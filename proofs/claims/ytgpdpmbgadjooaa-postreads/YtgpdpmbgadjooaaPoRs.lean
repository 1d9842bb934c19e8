/- PostReads answers true. -/
import Derived.Test.YtgpdpmbgadjooaaPoDc
import Derived.Test.YtgpdpmbgadjooaaPoWi
namespace Go.Proofs.Ytgpdpmbgadjooaa
open Go.RowKit
set_option maxRecDepth 100000

set_option maxHeartbeats 1000000 in
theorem rs_long (A : Option Addr) (n c : Nat) (hn : 300 < n) (hnm : n ≤ 9223372036854775807) (w : World) :
    Calls Try.prog 4 #[.slice A n c] w fun e w' => e = .returned (.bool true) ∧ Below w.heap.size w w' := by
  have hn' : (300 : Int) < (n : Int) := by omega
  go_enter Try.func4, Try.ntmps4
  go_wp2_with fail
  with_reducible refine (head_any _).mono ?_
  rintro e w1 ⟨rfl, b1⟩
  go_wp2_with fail
  go_ret
  exact ⟨rfl, b1⟩
set_option maxHeartbeats 4000000 in
theorem rs_any (A : Option Addr) (n c : Nat) (l : List UInt8) (HL : Hid (n = l.length)) (hn : n ≤ 300) (w : World) (hI : BS w w.heap.size A l) :
    Calls Try.prog 4 #[.slice A n c] w fun e w' => e = .returned (.bool true) ∧ Below w.heap.size w w' := by
  have hn' : ¬ (300 : Int) < (n : Int) := by omega
  have HB := Lib.hid hI
  have HLE : Hid (l.length ≤ 300) := by show _ ≤ _; rw [← HL.out]; exact hn
  clear hI
  go_enter Try.func4, Try.ntmps4
  go_wp2_with fail
  with_reducible refine (head_any _).mono ?_
  rintro e w1 ⟨rfl, b1⟩
  have KD := Lib.hid (decode_any A n c l HL (by have := HLE.out; omega) w1 ((HB.out.below b1).more b1.size))
  have HB1 := Lib.hid b1
  clear b1
  go_wp2_with fail
  (with_reducible refine KD.out.mono ?_)
  rintro e w2 ⟨hT, hF, b2⟩
  have HB2 := Lib.hid (HB1.out.trans (b2.mono HB1.out.size))
  clear b2
  cases hi : isH l with
  | false =>
    obtain rfl := hF hi
    clear hT hF hi
    go_wp2_with fail
    go_ret
    exact ⟨rfl, HB2.out⟩
  | true =>
    obtain ⟨A9, c9, rfl, hm1, hm2, hHS⟩ := hT hi
    have hi2 := hi
    unfold isH at hi2
    rw [Bool.and_eq_true] at hi2
    obtain ⟨hr, hq⟩ := hi2
    have heq := of_decide_eq_true hq
    have hdl := decH_len l
    obtain ⟨m, hm⟩ : ∃ m, m = (decH l).length := ⟨_, rfl⟩
    rw [← hm] at hm1 ⊢
    have KE := Lib.hid (enc_ok A9 m c9 (decH l) ⟨hm, decH_M l (by have := HLE.out; omega)⟩ (by omega) hm1 w2 hHS hr)
    rw [heq] at KE
    have hm1000 : m ≤ 1000 := by omega
    unfold maxLen at hm2
    clear hT hF hi hr hq heq hdl hm hHS
    go_wp2_with fail
    (with_reducible refine KE.out.mono ?_)
    rintro e w3 ⟨v7, rfl, o7, b3⟩
    obtain ⟨A7, c7, rfl, _, _, hbs7, _⟩ := o7.form
    have hB3 := HB2.out.trans (b3.mono HB2.out.size)
    obtain ⟨sl, hsl⟩ : ∃ sl, sl = (⟨l.toArray⟩ : ByteArray) := ⟨_, rfl⟩
    obtain ⟨m7, hm7⟩ : ∃ m7, m7 = l.length := ⟨_, rfl⟩
    rw [← hm7]
    have cv1 := hbs7.conv m7 c7 hm7
    have cv2 := (HB.out.below hB3).conv n c HL.out
    rw [← hsl] at cv1 cv2
    have HB3 := Lib.hid hB3
    clear o7 b3 hbs7 hm7 hB3 KE hsl
    go_wp2_with fail
    go_ret
    exact ⟨rfl, HB3.out⟩
end Go.Proofs.Ytgpdpmbgadjooaa
