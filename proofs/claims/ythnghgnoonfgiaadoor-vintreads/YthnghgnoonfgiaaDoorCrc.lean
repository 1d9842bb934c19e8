/- The sum of bytes (CRC-32) as a plain function on natural numbers, half a byte at a time; that it is linear; that a burst of 32 bits turns it. No Go in sight. -/
import Derived.WalkKit
namespace Go.Proofs.YthnghgnoonfgiaaDoor
set_option maxRecDepth 100000

def tabL : List Nat := [0, 498536548, 997073096, 651767980, 1994146192, 1802195444, 1303535960, 1342533948, 3988292384, 4027552580, 3604390888, 3412177804, 2607071920, 2262029012, 2685067896, 3183342108]
def tabN (i : Nat) : Nat := tabL.getD i 0
def lo4 (y : Nat) : Nat := y % 16
def half (y : Nat) : Nat := (y / 16) ^^^ tabN (lo4 y)
def halfs : Nat → Nat → Nat
  | 0, y => y
  | j + 1, y => half (halfs j y)
def byteStep (x c : Nat) : Nat := half (half (x ^^^ c))
def crcRun (x : Nat) (l : List UInt8) : Nat := l.foldl (fun x c => byteStep x c.toNat) x
def crcN (l : List UInt8) : Nat := 4294967295 - crcRun 4294967295 l

theorem lo4_lt (y : Nat) : lo4 y < 16 := by unfold lo4; omega
theorem tabN_lt (i : Nat) (h : i < 16) : tabN i < 4294967296 := by
  have : ∀ i : Fin 16, tabN i.val < 4294967296 := by decide +kernel
  exact this ⟨i, h⟩
theorem xor_lt32 {a b : Nat} (ha : a < 4294967296) (hb : b < 4294967296) : a ^^^ b < 4294967296 := Nat.xor_lt_two_pow (n := 32) ha hb
theorem half_lt (y : Nat) (h : y < 4294967296) : half y < 4294967296 := xor_lt32 (by omega) (tabN_lt _ (lo4_lt y))
theorem halfs_lt (j y : Nat) (h : y < 4294967296) : halfs j y < 4294967296 := by
  induction j with
  | zero => exact h
  | succ j ih => exact half_lt _ ih
theorem byteStep_lt (x c : Nat) (hx : x < 4294967296) (hc : c < 256) : byteStep x c < 4294967296 := half_lt _ (half_lt _ (xor_lt32 hx (by omega)))
theorem byte_lt (c : UInt8) : c.toNat < 256 := c.toNat_lt
theorem crcRun_lt (l : List UInt8) : ∀ x, x < 4294967296 → crcRun x l < 4294967296 := by
  induction l with
  | nil => intro x h; exact h
  | cons c l ih => intro x h; exact ih _ (byteStep_lt x _ h (byte_lt c))
theorem crcRun_snoc (x : Nat) (l : List UInt8) (c : UInt8) : crcRun x (l ++ [c]) = byteStep (crcRun x l) c.toNat := by simp [crcRun]
theorem crcRun_append (x : Nat) (l m : List UInt8) : crcRun x (l ++ m) = crcRun (crcRun x l) m := by simp [crcRun]
theorem crcN_lt (l : List UInt8) : crcN l < 4294967296 := by unfold crcN; omega
theorem crcN_digits : crcN [49, 50, 51, 52, 53, 54, 55, 56, 57] = 3421780262 := by decide +kernel

/-! ### linear -/
theorem tab_xor (i j : Nat) (hi : i < 16) (hj : j < 16) : tabN (i ^^^ j) = tabN i ^^^ tabN j := by
  have : ∀ i j : Fin 16, tabN (i.val ^^^ j.val) = tabN i.val ^^^ tabN j.val := by decide +kernel
  exact this ⟨i, hi⟩ ⟨j, hj⟩
theorem xor_div16 (a b : Nat) : (a ^^^ b) / 16 = (a / 16) ^^^ (b / 16) := by
  have := Nat.shiftRight_xor_distrib (a := a) (b := b) (i := 4)
  simpa [Nat.shiftRight_eq_div_pow] using this
theorem xor_mod16 (a b : Nat) : (a ^^^ b) % 16 = (a % 16) ^^^ (b % 16) := Nat.xor_mod_two_pow (n := 4)
theorem half_xor (a b : Nat) : half (a ^^^ b) = half a ^^^ half b := by
  unfold half lo4
  rw [xor_div16, xor_mod16, tab_xor _ _ (by omega) (by omega)]
  ac_rfl
theorem byteStep_xor (x y c d : Nat) : byteStep (x ^^^ y) (c ^^^ d) = byteStep x c ^^^ byteStep y d := by
  unfold byteStep
  rw [show (x ^^^ y) ^^^ (c ^^^ d) = (x ^^^ c) ^^^ (y ^^^ d) by ac_rfl, half_xor, half_xor]
theorem crcRun_xor : ∀ (l m : List UInt8) (x y : Nat), l.length = m.length → crcRun (x ^^^ y) (List.zipWith (· ^^^ ·) l m) = crcRun x l ^^^ crcRun y m
  | [], [], _, _, _ => rfl
  | c :: l, d :: m, x, y, h => by
    have e : (c ^^^ d).toNat = c.toNat ^^^ d.toNat := UInt8.toNat_xor c d
    show crcRun (byteStep (x ^^^ y) (c ^^^ d).toNat) (List.zipWith (· ^^^ ·) l m) = _
    rw [e, byteStep_xor]
    exact crcRun_xor l m _ _ (by simpa using h)
theorem not_xor (x : Nat) (h : x < 4294967296) : 4294967295 - x = 4294967295 ^^^ x := by
  have e := congrArg BitVec.toNat (BitVec.allOnes_xor (x := BitVec.ofNat 32 x))
  rw [BitVec.toNat_xor, BitVec.toNat_not, BitVec.toNat_allOnes, BitVec.toNat_ofNat, Nat.mod_eq_of_lt (by simpa using h)] at e
  exact e.symm
theorem zip_zero (l : List UInt8) : List.zipWith (· ^^^ ·) l (List.replicate l.length 0) = l := by
  induction l with
  | nil => rfl
  | cons c l ih => simp [List.replicate_succ, ih]
/-- The sum of bytes laid over each other. -/
theorem crc_adds (a b : List UInt8) (h : a.length = b.length) : crcN (List.zipWith (· ^^^ ·) a b) = (crcN a ^^^ crcN b) ^^^ crcN (List.replicate a.length 0) := by
  have hF : (4294967295 : Nat) < 4294967296 := by decide
  unfold crcN
  rw [not_xor _ (crcRun_lt _ _ hF), not_xor _ (crcRun_lt _ _ hF), not_xor _ (crcRun_lt _ _ hF), not_xor _ (crcRun_lt _ _ hF)]
  have hl : (List.zipWith (· ^^^ ·) a b).length = a.length := by simp [h]
  have e := crcRun_xor (List.zipWith (· ^^^ ·) a b) (List.replicate a.length 0) (4294967295 ^^^ 4294967295) 4294967295 (by simp [h])
  rw [crcRun_xor a b _ _ h] at e
  have z := zip_zero (List.zipWith (· ^^^ ·) a b)
  rw [hl] at z
  rw [z] at e
  have f : (4294967295 ^^^ 4294967295 : Nat) ^^^ 4294967295 = 4294967295 := by decide
  rw [f] at e
  rw [e]
  generalize crcRun 4294967295 a = p
  generalize crcRun 4294967295 b = q
  generalize crcRun 4294967295 (List.replicate a.length 0) = r
  have g : (4294967295 ^^^ p ^^^ (4294967295 ^^^ q)) = (4294967295 ^^^ 4294967295) ^^^ (p ^^^ q) := by ac_rfl
  rw [g, Nat.xor_self, Nat.zero_xor]
  ac_rfl

/-! ### a burst -/
theorem tab_big (i : Nat) (h : i < 16) (h0 : i ≠ 0) : 268435456 ≤ tabN i := by
  have : ∀ i : Fin 16, i.val ≠ 0 → 268435456 ≤ tabN i.val := by decide +kernel
  exact this ⟨i, h⟩ h0
theorem xor_zero_eq {a b : Nat} (e : a ^^^ b = 0) : a = b := by
  have h : a ^^^ (a ^^^ b) = b := by rw [← Nat.xor_assoc, Nat.xor_self, Nat.zero_xor]
  rw [e, Nat.xor_zero] at h
  exact h
theorem half_zero (y : Nat) (h : y < 4294967296) (e : half y = 0) : y = 0 := by
  unfold half lo4 at e
  have e' : y / 16 = tabN (y % 16) := xor_zero_eq e
  by_cases h0 : y % 16 = 0
  · rw [h0] at e'
    have : tabN 0 = 0 := rfl
    omega
  · have := tab_big (y % 16) (by omega) h0
    omega
theorem half_16 (z : Nat) : half (16 * z) = z := by
  unfold half lo4
  rw [Nat.mul_mod_right, Nat.mul_div_cancel_left _ (by decide)]
  exact Nat.xor_zero z
theorem step_256 (x d : Nat) : byteStep x d = half (half (x ^^^ d)) := rfl
theorem HH_256 (z : Nat) : half (half (256 * z)) = z := by
  rw [show 256 * z = 16 * (16 * z) by omega, half_16, half_16]
theorem crc_zeros_ne (n : Nat) : ∀ y, y < 4294967296 → y ≠ 0 → crcRun y (List.replicate n 0) ≠ 0 := by
  induction n with
  | zero => intro y _ h; exact h
  | succ n ih =>
    intro y hy h
    rw [List.replicate_succ]
    show crcRun (byteStep y (0 : UInt8).toNat) (List.replicate n 0) ≠ 0
    have e0 : byteStep y (0 : UInt8).toNat = half (half y) := by
      show half (half (y ^^^ 0)) = _
      rw [Nat.xor_zero]
    rw [e0]
    exact ih _ (half_lt _ (half_lt _ hy)) fun e => h (half_zero y hy (half_zero _ (half_lt _ hy) e))
theorem crc_zeros_zero (n : Nat) : crcRun 0 (List.replicate n 0) = 0 := by
  induction n with
  | zero => rfl
  | succ n ih => rw [List.replicate_succ]; show crcRun (byteStep 0 (0 : UInt8).toNat) _ = 0; rw [show byteStep 0 (0 : UInt8).toNat = 0 by decide +kernel]; exact ih
theorem burst_form (a b c d : Nat) : byteStep (byteStep (byteStep (byteStep 0 a) b) c) d =
    half (half (half (half (half (half (half (half (a ^^^ 256 * b ^^^ 65536 * c ^^^ 16777216 * d)))))))) := by
  have hb : b = half (half (256 * b)) := (HH_256 b).symm
  have hc : c = half (half (half (half (65536 * c)))) := by rw [show 65536 * c = 256 * (256 * c) by omega, HH_256, HH_256]
  have hd : d = half (half (half (half (half (half (16777216 * d)))))) := by rw [show 16777216 * d = 256 * (256 * (256 * d)) by omega, HH_256, HH_256, HH_256]
  simp only [half_xor]
  rw [← hd, ← hc, ← hb]
  unfold byteStep
  simp only [half_xor, Nat.zero_xor]
theorem xor_mod256 (a b : Nat) : (a ^^^ b) % 256 = (a % 256) ^^^ (b % 256) := Nat.xor_mod_two_pow (n := 8)
theorem xor_div256 (a b : Nat) : (a ^^^ b) / 256 = (a / 256) ^^^ (b / 256) := by
  have := Nat.shiftRight_xor_distrib (a := a) (b := b) (i := 8)
  simpa [Nat.shiftRight_eq_div_pow] using this
theorem join_zero (a b : Nat) (ha : a < 256) (e : a ^^^ 256 * b = 0) : a = 0 ∧ b = 0 := by
  have h1 := congrArg (· % 256) e
  simp only [xor_mod256, Nat.mul_mod_right, Nat.xor_zero] at h1
  have h2 := congrArg (· / 256) e
  simp only [xor_div256] at h2
  rw [Nat.mul_div_cancel_left _ (by decide), Nat.div_eq_of_lt ha, Nat.zero_xor] at h2
  omega
theorem mul256_xor (a b : Nat) : 256 * (a ^^^ b) = 256 * a ^^^ 256 * b := by
  have := Nat.shiftLeft_xor_distrib (a := a) (b := b) (i := 8)
  simpa [Nat.shiftLeft_eq, Nat.mul_comm] using this
theorem burst_ne (a b c d : Nat) (ha : a < 256) (hb : b < 256) (hc : c < 256) (h : ¬ (a = 0 ∧ b = 0 ∧ c = 0 ∧ d = 0)) : a ^^^ 256 * b ^^^ 65536 * c ^^^ 16777216 * d ≠ 0 := by
  intro e
  have e' : a ^^^ 256 * (b ^^^ 256 * (c ^^^ 256 * d)) = 0 := by
    rw [mul256_xor, mul256_xor, mul256_xor, ← e, ← Nat.mul_assoc, ← Nat.mul_assoc, ← Nat.mul_assoc]
    ac_rfl
  obtain ⟨h1, e1⟩ := join_zero _ _ ha e'
  obtain ⟨h2, e2⟩ := join_zero _ _ hb e1
  obtain ⟨h3, e3⟩ := join_zero _ _ hc e2
  exact h ⟨h1, h2, h3, e3⟩
/-- Two texts of bytes that differ in four bytes side by side have other sums. -/
theorem crc_burst (p q : List UInt8) (x0 x1 x2 x3 y0 y1 y2 y3 : UInt8) (h : ¬ (x0 = y0 ∧ x1 = y1 ∧ x2 = y2 ∧ x3 = y3)) :
    crcN (p ++ [x0, x1, x2, x3] ++ q) ≠ crcN (p ++ [y0, y1, y2, y3] ++ q) := by
  have hF : (4294967295 : Nat) < 4294967296 := by decide
  intro e
  unfold crcN at e
  have l1 := crcRun_lt (p ++ [x0, x1, x2, x3] ++ q) _ hF
  have l2 := crcRun_lt (p ++ [y0, y1, y2, y3] ++ q) _ hF
  have e1 : crcRun 4294967295 (p ++ [x0, x1, x2, x3] ++ q) = crcRun 4294967295 (p ++ [y0, y1, y2, y3] ++ q) := by omega
  have e2 := crcRun_xor (p ++ [x0, x1, x2, x3] ++ q) (p ++ [y0, y1, y2, y3] ++ q) 4294967295 4294967295 (by simp)
  rw [e1, Nat.xor_self, Nat.xor_self] at e2
  have self0 : ∀ l : List UInt8, List.zipWith (· ^^^ ·) l l = List.replicate l.length 0 := fun l => by
    induction l with
    | nil => rfl
    | cons c l ih => rw [List.zipWith_cons_cons, ih, UInt8.xor_self]; rfl
  have e3 : List.zipWith (· ^^^ ·) (p ++ [x0, x1, x2, x3] ++ q) (p ++ [y0, y1, y2, y3] ++ q) = List.replicate p.length 0 ++ [x0 ^^^ y0, x1 ^^^ y1, x2 ^^^ y2, x3 ^^^ y3] ++ List.replicate q.length 0 := by
    rw [List.zipWith_append (by simp), List.zipWith_append (by simp), self0, self0]
    rfl
  rw [e3, crcRun_append, crcRun_append, crc_zeros_zero] at e2
  have e4 : crcRun 0 [x0 ^^^ y0, x1 ^^^ y1, x2 ^^^ y2, x3 ^^^ y3] = byteStep (byteStep (byteStep (byteStep 0 (x0 ^^^ y0).toNat) (x1 ^^^ y1).toNat) (x2 ^^^ y2).toNat) (x3 ^^^ y3).toNat := rfl
  have hb := fun c : UInt8 => byte_lt c
  refine crc_zeros_ne q.length _ ?_ ?_ e2
  · rw [e4]; exact byteStep_lt _ _ (byteStep_lt _ _ (byteStep_lt _ _ (byteStep_lt _ _ (by decide) (hb _)) (hb _)) (hb _)) (hb _)
  · rw [e4, burst_form]
    have hz : ∀ u v : UInt8, (u ^^^ v).toNat = 0 → u = v := fun u v e => by
      rw [UInt8.toNat_xor] at e
      exact UInt8.toNat_inj.1 (xor_zero_eq e)
    have hn := burst_ne (x0 ^^^ y0).toNat (x1 ^^^ y1).toNat (x2 ^^^ y2).toNat (x3 ^^^ y3).toNat (hb _) (hb _) (hb _) (fun ⟨a, b, c, d⟩ => h ⟨hz _ _ a, hz _ _ b, hz _ _ c, hz _ _ d⟩)
    have hlt : (x0 ^^^ y0).toNat ^^^ 256 * (x1 ^^^ y1).toNat ^^^ 65536 * (x2 ^^^ y2).toNat ^^^ 16777216 * (x3 ^^^ y3).toNat < 4294967296 :=
      xor_lt32 (xor_lt32 (xor_lt32 (by have := hb (x0 ^^^ y0); omega) (by have := hb (x1 ^^^ y1); omega)) (by have := hb (x2 ^^^ y2); omega)) (by have := hb (x3 ^^^ y3); omega)
    intro e
    apply hn
    have up : ∀ y, y < 4294967296 → half y = 0 → y = 0 := half_zero
    refine up _ hlt (up _ ?_ (up _ ?_ (up _ ?_ (up _ ?_ (up _ ?_ (up _ ?_ (up _ ?_ e)))))))
    all_goals (repeat (first | exact hlt | apply half_lt))
end Go.Proofs.YthnghgnoonfgiaaDoor
