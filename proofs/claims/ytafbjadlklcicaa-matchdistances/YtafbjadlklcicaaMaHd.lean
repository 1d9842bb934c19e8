/- head. -/
import Derived.Test.YtafbjadlklcicaaMaHo
namespace Go.Proofs.Ytafbjadlklcicaa
open Go.RowKit
set_option maxRecDepth 100000

def hdS : List Sp := [(1, 1, 0, 0), (2, 3, 0, 0)]
theorem hd_ways : waysF 1 (ofL hdS) = some 1 := by decide
theorem hd_not : notL (ofL hdS) = [([], hdS)] := by decide
theorem hd_small : smM (ofL hdS) := fun m hm => by
  obtain ⟨s, _, rfl⟩ := List.mem_map.1 hm
  exact ⟨by show 1 ≤ 20000; decide, by show 0 ≤ 20000; decide⟩
theorem ofL_len (l : List Sp) : (ofL l).length = l.length := by simp [ofL]
set_option maxHeartbeats 2000000 in
theorem head_any (w : World) : Calls Try.prog 7 #[] w fun e w' => e = .returned (.bool true) ∧ Below w.heap.size w w' := by
  obtain ⟨X, hX⟩ : ∃ X, w.alloc (.cells #[.int .i64 1, .int .i64 1, .int .i64 0, .int .i64 0, .int .i64 2, .int .i64 3, .int .i64 0, .int .i64 0] 26) = X := ⟨_, rfl⟩
  have bX : Below w.heap.size w X := by rw [← hX]; exact (Below.refl _ _).alloc (Nat.le_refl _) _
  have hcs : CS X X.heap.size (some ⟨w.heap.size, 0, none⟩) (spCs hdS) := by
    have h := cells_new w #[.int .i64 1, .int .i64 1, .int .i64 0, .int .i64 0, .int .i64 2, .int .i64 3, .int .i64 0, .int .i64 0] 26 X.heap.size (by rw [← hX]; simp)
    rw [hX] at h
    exact h
  have KO := Lib.hid (of_any (some ⟨w.heap.size, 0, none⟩) 2 2 hdS rfl (by decide) X hcs)
  have HX := Lib.hid hX
  have HBX := Lib.hid bX
  clear hX bX hcs
  go_enter Try.func7, Try.ntmps7
  go_wp2_with fail
  rw [HX.out]
  with_reducible refine KO.out.mono ?_
  rintro e w1 ⟨v1, zs, rfl, hmk⟩
  obtain ⟨A1, c1, e1, _, _, hms⟩ := hmk.out
  rw [ofL_len] at e1
  obtain rfl : v1 = .slice A1 2 c1 := e1
  have hb1 := HBX.out.trans (hmk.kb.mono HBX.out.size)
  have KN := Lib.hid (not_any A1 2 c1 (ofL hdS) rfl (by decide) hd_small w1 hms)
  have HM1 := Lib.hid hms
  have HB1 := Lib.hid hb1
  clear hmk hb1 hms KO
  go_wp2_with fail
  with_reducible refine KN.out.mono ?_
  rintro e w2 ⟨_, hyes, b2⟩
  obtain ⟨A2, c2, rfl, _, _, hms2⟩ := hyes 1 hd_ways
  rw [hd_not] at hms2
  have HM2 := Lib.hid hms2
  have HB2 := Lib.hid (HB1.out.trans (b2.mono HB1.out.size))
  have HM1' := Lib.hid (HM1.out.up b2)
  obtain ⟨b, o, z0, z1, rfl, hbb, e0, e1, y0, y1⟩ := hms2.at_ 0 (by decide)
  obtain ⟨S0, d0, rfl, _⟩ := y0
  obtain ⟨S1, d1, rfl, _, _, k1⟩ := y1
  obtain ⟨g, p, rfl, hg, hc⟩ := k1 (by decide)
  have x3 : w2.cell? ⟨g, p + 4 + 1, none⟩ = some (.int .i64 3) := hc 5 _ rfl
  rw [Nat.zero_mul, Nat.add_zero] at e0 e1
  have e0' : w2.cell? ⟨b, o, none⟩ = some (.slice S0 0 d0) := e0
  have e1' : w2.cell? ⟨b, o + 1, none⟩ = some (.slice (some ⟨g, p, none⟩) 2 d1) := e1
  have KH1 : Hid (Calls Try.prog 34 #[.slice (some ⟨b, o, none⟩) 1 c2] w2 fun e w' => e = .returned (.bool false) ∧ Below w2.heap.size w2 w') := holds_any _ 1 c2 [([], hdS)] rfl (by decide) w2 HM2.out
  have KH2 : Hid (∀ W, Below w2.heap.size w2 W → Calls Try.prog 34 #[.slice A1 2 c1] W fun e w' => e = .returned (.bool true) ∧ Below W.heap.size W w') := fun W hW => holds_any A1 2 c1 (ofL hdS) rfl (by decide) W (HM1'.out.up hW)
  clear hyes b2 hms2 hbb e0 e1 k1 hg hc KN
  go_wp2_with fail
  with_reducible refine KH1.out.mono ?_
  rintro e w3 ⟨rfl, b3⟩
  have KH3 := Lib.hid (KH2.out w3 b3)
  have HB3 := Lib.hid (HB2.out.trans (b3.mono HB2.out.size))
  clear b3
  go_wp2_with fail
  with_reducible refine KH3.out.mono ?_
  rintro e w4 ⟨rfl, b4⟩
  go_wp2_with fail
  go_ret
  exact ⟨rfl, HB3.out.trans (b4.mono HB3.out.size)⟩
end Go.Proofs.Ytafbjadlklcicaa
