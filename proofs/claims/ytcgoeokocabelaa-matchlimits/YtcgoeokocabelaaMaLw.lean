/- MatchLimits answers true. -/
import Derived.Test.YtcgoeokocabelaaMaLk
namespace Go.Proofs.Ytcgoeokocabelaa
open Go.RowKit
set_option maxRecDepth 100000

theorem and_511 (b : Int) : ∃ n : Nat, bits .and .i64 b 511 = (n : Int) ∧ n ≤ 511 := by
  have h : (BitVec.ofInt 64 b &&& BitVec.ofInt 64 511).toNat ≤ 511 := by
    rw [BitVec.toNat_and]
    exact Nat.le_trans Nat.and_le_right (by decide)
  refine ⟨(BitVec.ofInt 64 b &&& BitVec.ofInt 64 511).toNat, ?_, h⟩
  show IntKind.i64.wrap ((BitVec.ofInt 64 b &&& BitVec.ofInt 64 511).toNat : Int) = _
  rw [IntKind.wrap_i64]
  omega
theorem and_31 (b : Int) : ∃ n : Nat, bits .and .i64 b 31 = (n : Int) ∧ n ≤ 31 := by
  have h : (BitVec.ofInt 64 b &&& BitVec.ofInt 64 31).toNat ≤ 31 := by
    rw [BitVec.toNat_and]
    exact Nat.le_trans Nat.and_le_right (by decide)
  refine ⟨(BitVec.ofInt 64 b &&& BitVec.ofInt 64 31).toNat, ?_, h⟩
  show IntKind.i64.wrap ((BitVec.ofInt 64 b &&& BitVec.ofInt 64 31).toNat : Int) = _
  rw [IntKind.wrap_i64]
  omega
theorem CntQ.base {ok : Prop} {N : Nat} {w w0 : World} {e : Ending} {w' : World} (h : CntQ ok N w e w') (hb : Below w0.heap.size w0 w) : CntQ ok N w0 e w' := by
  obtain ⟨A, M, c, er, h1, h2, h3⟩ := h
  exact ⟨A, M, c, er, h1, h2, hb.trans (h3.mono hb.size)⟩
abbrev zS (n : Nat) : Obj := .cells (madeCells #[.int .i64 0, .int .i64 0, .int .i64 0, .int .i64 0] (n * 4)) 38
/-- Two matches of so many spans, however their memory was made. -/
theorem two_ms (w : World) (a b n m : Nat) (X : World) (h1 : CS w w.heap.size (some ⟨a, 0, none⟩) (spCs (List.replicate n (0, 0, 0, 0)))) (h2 : CS w w.heap.size (some ⟨b, 0, none⟩) (spCs (List.replicate m (0, 0, 0, 0)))) (hn : n ≤ 1000) (hm : m ≤ 1000)
    (hX : X = w.alloc (.cells #[.slice (some ⟨a, 0, none⟩) n n, .slice none 0 0, .slice (some ⟨b, 0, none⟩) m m, .slice none 0 0] 34)) : MS X.drew X.drew.heap.size (some ⟨w.heap.size, 0, none⟩) (twoM n m) := by
  have bX : Below w.heap.size w X := by rw [hX]; exact (Below.refl _ _).alloc (Nat.le_refl _) _
  have hc : CS X X.heap.size (some ⟨w.heap.size, 0, none⟩) (zC [(.slice (some ⟨a, 0, none⟩) n n, .slice none 0 0), (.slice (some ⟨b, 0, none⟩) m m, .slice none 0 0)]) := by
    rw [hX]
    exact cells_new w #[.slice (some ⟨a, 0, none⟩) n n, .slice none 0 0, .slice (some ⟨b, 0, none⟩) m m, .slice none 0 0] 34 _ (by simp)
  have v1 : SV X X.heap.size (.slice (some ⟨a, 0, none⟩) n n) (List.replicate n (0, 0, 0, 0)) := ⟨_, n, by rw [List.length_replicate], by rw [List.length_replicate]; exact Nat.le_refl _, by unfold maxLen; omega, (h1.below bX).more bX.size⟩
  have v2 : SV X X.heap.size (.slice (some ⟨b, 0, none⟩) m m) (List.replicate m (0, 0, 0, 0)) := ⟨_, m, by rw [List.length_replicate], by rw [List.length_replicate]; exact Nat.le_refl _, by unfold maxLen; omega, (h2.below bX).more bX.size⟩
  have hm : MS X X.heap.size (some ⟨w.heap.size, 0, none⟩) (twoM n m) := ⟨_, hc, MZ.app (MZ.one v1 (SV.nil _ _)) (MZ.one v2 (SV.nil _ _))⟩
  exact hm.up ((Below.refl _ _).drew)
theorem not_two (w : World) (n m : Nat) (hn : n ≤ 1000) (hm : m ≤ 1000) :
    Calls Try.prog 17 #[.slice (some ⟨w.heap.size + 1 + 1, 0, none⟩) 2 2] ((((w.alloc (zS n)).alloc (zS m)).alloc (.cells #[.slice (some ⟨w.heap.size, 0, none⟩) n n, .slice none 0 0, .slice (some ⟨w.heap.size + 1, 0, none⟩) m m, .slice none 0 0] 34)).drew) (CntQ (n ≤ 400 ∧ n * m ≤ 400) (n * m) w) ∧
    Calls Try.prog 17 #[.slice (some ⟨w.heap.size + 1 + 1, 0, none⟩) 2 2] ((((w.alloc (zS m)).alloc (zS n)).alloc (.cells #[.slice (some ⟨w.heap.size + 1, 0, none⟩) n n, .slice none 0 0, .slice (some ⟨w.heap.size, 0, none⟩) m m, .slice none 0 0] 34)).drew) (CntQ (n ≤ 400 ∧ n * m ≤ 400) (n * m) w) := by
  have key : ∀ (x y : Nat), CS ((w.alloc (zS x)).alloc (zS y)) ((w.alloc (zS x)).alloc (zS y)).heap.size (some ⟨w.heap.size, 0, none⟩) (spCs (List.replicate x (0, 0, 0, 0))) ∧ CS ((w.alloc (zS x)).alloc (zS y)) ((w.alloc (zS x)).alloc (zS y)).heap.size (some ⟨w.heap.size + 1, 0, none⟩) (spCs (List.replicate y (0, 0, 0, 0))) := fun x y => by
    have s1 : (w.alloc (zS x)).heap.size = w.heap.size + 1 := by simp
    have b2 : Below (w.alloc (zS x)).heap.size (w.alloc (zS x)) ((w.alloc (zS x)).alloc (zS y)) := (Below.refl _ _).alloc (Nat.le_refl _) _
    have k1 := made_S w x (w.alloc (zS x)).heap.size (by rw [s1]; exact Nat.lt_succ_self _)
    have k2 := made_S (w.alloc (zS x)) y ((w.alloc (zS x)).alloc (zS y)).heap.size (by simp)
    rw [s1] at k2
    exact ⟨(k1.below b2).more b2.size, k2⟩
  have s2 : ∀ x y : Nat, ((w.alloc (zS x)).alloc (zS y)).heap.size = w.heap.size + 1 + 1 := fun x y => by simp
  have bb : ∀ (x y : Nat) (o : Obj), Below w.heap.size w ((((w.alloc (zS x)).alloc (zS y)).alloc o).drew) := fun x y o => ((((Below.refl w.heap.size w).alloc (Nat.le_refl _) _).alloc (by simp) _).alloc (by simp; omega) _).drew
  refine ⟨?_, ?_⟩
  · have h := two_ms ((w.alloc (zS n)).alloc (zS m)) w.heap.size (w.heap.size + 1) n m _ (key n m).1 (key n m).2 hn hm rfl
    rw [s2] at h
    exact (not_k _ 2 n m hn hm _ h).mono fun e w' hq => hq.base (bb _ _ _)
  · have h := two_ms ((w.alloc (zS m)).alloc (zS n)) (w.heap.size + 1) w.heap.size n m _ (key m n).2 (key m n).1 hn hm rfl
    rw [s2] at h
    exact (not_k _ 2 n m hn hm _ h).mono fun e w' hq => hq.base (bb _ _ _)
set_option maxHeartbeats 8000000 in
theorem limits_any (n0 m0 : Int) (w : World) :
    Calls Try.prog 12 #[.int .i64 n0, .int .i64 m0] w fun e w' => e = .returned (.bool true) ∧ Below w.heap.size w w' := by
  obtain ⟨n, hn, hnl⟩ := and_511 n0
  obtain ⟨m, hm, hml⟩ := and_31 m0
  obtain ⟨S, hS⟩ : ∃ S, n + m = S := ⟨_, rfl⟩
  obtain ⟨P, hP⟩ : ∃ P, n * m = P := ⟨_, rfl⟩
  have hPl : P ≤ 511 * 31 := by rw [← hP]; exact Nat.mul_le_mul hnl hml
  have wS : IntKind.i64.wrap ((n : Int) + (m : Int)) = (S : Int) := by rw [IntKind.wrap_i64]; omega
  have eP : (n : Int) * (m : Int) = (P : Int) := by rw [← hP]; push_cast; rfl
  have wP : IntKind.i64.wrap ((n : Int) * (m : Int)) = (P : Int) := by rw [eP, IntKind.wrap_i64]; omega
  have HSP := Lib.hid (And.intro hS hP)
  have hmn := make_S n (by omega)
  have hmm := make_S m (by omega)
  clear eP hS hP
  go_enter Try.func12, Try.ntmps12
  go_wp2_with fail
  with_reducible refine (head_any _).mono ?_
  rintro e w1 ⟨rfl, b1⟩
  have HB1 := Lib.hid b1
  clear b1
  go_wp2_with fail
  with_reducible refine (list_any n (by omega) _).mono ?_
  rintro e w2 ⟨v2, z2, rfl, k2⟩
  obtain ⟨A2, c2, e2, _, _, m2⟩ := k2.out
  rw [ofL_len, spK_len] at e2
  subst e2
  have HM2 := Lib.hid m2
  have HB2 := Lib.hid (HB1.out.trans (k2.kb.mono HB1.out.size))
  clear k2 m2 HB1
  go_wp2_with fail
  with_reducible refine (list_any m (by omega) _).mono ?_
  rintro e w3 ⟨v3, z3, rfl, k3⟩
  obtain ⟨A3, c3, e3, _, _, m3⟩ := k3.out
  rw [ofL_len, spK_len] at e3
  subst e3
  have KO := Lib.hid (or_k A2 A3 n c2 m c3 (ofL (spK n)) (ofL (spK m)) (by rw [ofL_len, spK_len]) (by rw [ofL_len, spK_len]) (by omega) (by omega) (ofL_small _) (ofL_small _) w3 (HM2.out.up k3.kb) m3)
  rw [HSP.out.1] at KO
  have HB3 := Lib.hid (HB2.out.trans (k3.kb.mono HB2.out.size))
  clear k3 m3 HB2 HM2
  go_wp2_with fail
  with_reducible refine KO.out.mono ?_
  rintro e w4 ⟨A6, N6, c6, r6, rfl, h6, b4⟩
  have H6 := Lib.hid h6
  have HB4 := Lib.hid (HB3.out.trans (b4.mono HB3.out.size))
  clear b4 h6 KO HB3
  go_wp2_with fail
  with_reducible refine (list_any n (by omega) _).mono ?_
  rintro e w5 ⟨v5, z5, rfl, k5⟩
  obtain ⟨A5, c5, e5, _, _, m5⟩ := k5.out
  rw [ofL_len, spK_len] at e5
  subst e5
  have HM5 := Lib.hid m5
  have HB5 := Lib.hid (HB4.out.trans (k5.kb.mono HB4.out.size))
  clear k5 m5 HB4
  go_wp2_with fail
  with_reducible refine (list_any m (by omega) _).mono ?_
  rintro e w6 ⟨v7, z7, rfl, k7⟩
  obtain ⟨A7, c7, e7, _, _, m7⟩ := k7.out
  rw [ofL_len, spK_len] at e7
  subst e7
  have KA := Lib.hid (and_k A5 A7 n c5 m c7 (ofL (spK n)) (ofL (spK m)) (by rw [ofL_len, spK_len]) (by rw [ofL_len, spK_len]) (by omega) (ofL_small _) (ofL_small _) w6 (HM5.out.up k7.kb) m7)
  rw [HSP.out.2] at KA
  have HB6 := Lib.hid (HB5.out.trans (k7.kb.mono HB5.out.size))
  clear k7 m7 HB5 HM5
  go_wp2_with fail
  with_reducible refine KA.out.mono ?_
  rintro e w8 ⟨A8, N8, c8, r8, rfl, h8, b8⟩
  have H8 := Lib.hid h8
  have HB8 := Lib.hid (HB6.out.trans (b8.mono HB6.out.size))
  obtain ⟨kn1, kn2⟩ := not_two w8 n m (by omega) (by omega)
  rw [HSP.out.2] at kn1 kn2
  have KN1 := Lib.hid kn1
  have KN2 := Lib.hid kn2
  clear b8 h8 KA HB6 kn1 kn2
  go_wp2_with fail
  go_region_held3 (fun _ => True) (exact trivial)
    (first
      | (go_at_call 17; (with_reducible refine KN1.out.mono ?_); rintro e w9 ⟨A10, N10, c10, r10, rfl, h10, b9⟩)
      | (go_at_call 17; (with_reducible refine KN2.out.mono ?_); rintro e w9 ⟨A10, N10, c10, r10, rfl, h10, b9⟩))
  all_goals
    have HB10 := Lib.hid (HB8.out.trans (b9.mono HB8.out.size))
    have h6 : (r6 = 0 ∧ S = N6 ∧ S ≤ 400) ∨ (r6 = 23 ∧ 0 = N6 ∧ ¬ S ≤ 400) := H6.out.imp (fun h => ⟨h.1, h.2.1.symm, h.2.2⟩) fun h => ⟨h.1, h.2.1.symm, h.2.2⟩
    have h8 : (r8 = 0 ∧ P = N8 ∧ P ≤ 400) ∨ (r8 = 23 ∧ 0 = N8 ∧ ¬ P ≤ 400) := H8.out.imp (fun h => ⟨h.1, h.2.1.symm, h.2.2⟩) fun h => ⟨h.1, h.2.1.symm, h.2.2⟩
    have h10' : (r10 = 0 ∧ P = N10 ∧ n ≤ 400 ∧ P ≤ 400) ∨ (r10 = 23 ∧ 0 = N10 ∧ n ≤ 400 ∧ ¬ P ≤ 400) ∨ (r10 = 23 ∧ 0 = N10 ∧ ¬ n ≤ 400) := by
      rcases h10 with h | ⟨x, y, z⟩
      · exact .inl ⟨h.1, h.2.1.symm, h.2.2⟩
      · by_cases h4 : n ≤ 400
        · exact .inr (.inl ⟨x, y.symm, h4, fun h => z ⟨h4, h⟩⟩)
        · exact .inr (.inr ⟨x, y.symm, h4⟩)
    clear h10 b9 H6 H8 KN1 KN2 HSP hmn hmm HB8
    rcases h6 with ⟨rfl, rfl, a6⟩ | ⟨rfl, rfl, a6⟩ <;> rcases h8 with ⟨rfl, rfl, a8⟩ | ⟨rfl, rfl, a8⟩ <;> rcases h10' with ⟨rfl, rfl, a10, b10⟩ | ⟨rfl, rfl, a10, b10⟩ | ⟨rfl, rfl, a10⟩
    all_goals first
      | (exfalso; omega)
      | ((first | (have bS : decide ((S : Int) ≤ 400) = true := decide_eq_true (by omega)) | (have bS : decide ((S : Int) ≤ 400) = false := decide_eq_false (by omega)))
         (first | (have bP : decide ((P : Int) ≤ 400) = true := decide_eq_true (by omega)) | (have bP : decide ((P : Int) ≤ 400) = false := decide_eq_false (by omega)))
         (first | (have bN : decide ((n : Int) ≤ 400) = true := decide_eq_true (by omega)) | (have bN : decide ((n : Int) ≤ 400) = false := decide_eq_false (by omega)))
         go_wp2_with fail
         go_ret
         exact ⟨rfl, HB10.out⟩)
end Go.Proofs.Ytcgoeokocabelaa
