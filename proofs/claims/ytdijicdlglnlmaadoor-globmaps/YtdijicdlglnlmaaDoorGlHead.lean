/- The laws' head: the document's examples. -/
import Derived.Test.YtdijicdlglnlmaaDoorGlWalk7
import Derived.KernelRfl
namespace Go.Proofs.YtdijicdlglnlmaaDoor
open Go.RowKit
set_option maxRecDepth 100000

theorem GlobAt.keep {w w' : World} {B R : Nat} {ps : List GP} (h : GlobAt w B R ps) (hb : Below w.heap.size w w') : GlobAt w' B R ps := by
  obtain ⟨h1, h2, h3, v, h4, h5⟩ := h
  exact ⟨h1, Nat.lt_of_lt_of_le h2 hb.size, (fz_keep hb h2 0).trans h3, v, (hb.cell (p := ⟨R, 0, none⟩) h2).trans h4, own_below h5 hb⟩
theorem parse_len : ∀ (f : Nat) (t : List UInt8) (acc ps : List GP), parseL f t acc = .ok ps → acc.length ≤ 200 → ps.length ≤ 200
  | 0, t, acc, ps, h, ha => by rw [parseL] at h; cases h; exact ha
  | f + 1, t, acc, ps, h, ha => by
    rw [parseL] at h
    by_cases he : t = []
    · rw [if_pos he] at h; cases h; exact ha
    · rw [if_neg he] at h
      split at h
      · cases h
      · split at h
        · cases h
        · exact parse_len f _ _ ps h (by simp; omega)
theorem parse_good (l : List UInt8) (ps : List GP) (hv : Hid (Lib.validD l = true)) (hp : Hid (parseL l.length l [] = .ok ps)) (hl : l.length ≤ 1000000) (w : World) (hT : UT w) :
    Calls Tryd.prog 10 #[.string (strOf l)] w fun e w' => ∃ R, e = .returned (.tuple #[.pointer (some ⟨R, 0, none⟩), .int .i64 0]) ∧ GlobAt w' w.heap.size R ps ∧ Below w.heap.size w w' := by
  refine (parse_any l hl w hT).mono ?_
  rintro e w' ⟨hb, ⟨h1, _⟩ | ⟨_, ⟨c, h1, _⟩ | ⟨ps', R, h1, he, hG⟩⟩⟩
  · rw [hv.out] at h1; cases h1
  · rw [hp.out] at h1; cases h1
  · rw [hp.out] at h1; cases h1; exact ⟨R, he, hG, hb⟩
theorem parse_wrong (l : List UInt8) (c : Int) (hv : Hid (Lib.validD l = true)) (hp : Hid (parseL l.length l [] = .error c)) (hl : l.length ≤ 1000000) (w : World) (hT : UT w) :
    Calls Tryd.prog 10 #[.string (strOf l)] w fun e w' => e = .returned (.tuple #[.pointer none, .int .i64 c]) ∧ Below w.heap.size w w' := by
  refine (parse_any l hl w hT).mono ?_
  rintro e w' ⟨hb, ⟨h1, _⟩ | ⟨_, ⟨c', h1, he⟩ | ⟨ps', R, h1, he, hG⟩⟩⟩
  · rw [hv.out] at h1; cases h1
  · rw [hp.out] at h1; cases h1; exact ⟨he, hb⟩
  · rw [hp.out] at h1; cases h1
theorem parse_utf (l : List UInt8) (hv : Hid (Lib.validD l = false)) (hl : l.length ≤ 1000000) (w : World) (hT : UT w) :
    Calls Tryd.prog 10 #[.string (strOf l)] w fun e w' => e = .returned (.tuple #[.pointer none, .int .i64 10]) ∧ Below w.heap.size w w' := by
  refine (parse_any l hl w hT).mono ?_
  rintro e w' ⟨hb, ⟨_, he⟩ | ⟨h1, _⟩⟩
  · exact ⟨he, hb⟩
  · rw [hv.out] at h1; cases h1
theorem ok_of_parse {l : List UInt8} {ps : List GP} (h : parseL l.length l [] = .ok ps) : okGP ps ∧ ps.length ≤ 200 :=
  ⟨parse_ok _ _ _ _ h (fun _ h => by simp at h), parse_len _ _ _ _ h (by simp)⟩
theorem match_is (l : List UInt8) (rs : List Nat) (ps : List GP) (b : Bool) (h : Hid (l = encAll rs ∧ allSign rs ∧ rs.length ≤ 100000 ∧ okGP ps ∧ ps.length ≤ 200 ∧ matchB ps (rs.map fun r : Nat => (r : Int)) = b)) (B R : Nat) (w : World) (hT : UT w) (hG : GlobAt w B R ps) :
    Calls Tryd.prog 13 #[.pointer (some ⟨R, 0, none⟩), .string (strOf l)] w fun e w' => e = .returned (.bool b) ∧ Below w.heap.size w w' := by
  obtain ⟨rfl, h1, h2, h3, h4, rfl⟩ := h.out
  exact match_any rs h1 h2 ps h4 h3 B R w hT hG
theorem prefix_is (ps : List GP) (q : List UInt8) (h : Hid (prefL ps = q ∧ ps.length ≤ 200)) (B R : Nat) (w : World) (hG : GlobAt w B R ps) :
    Calls Tryd.prog 14 #[.pointer (some ⟨R, 0, none⟩)] w fun e w' => e = .returned (.string (strOf q)) ∧ Below w.heap.size w w' := by
  obtain ⟨rfl, h1⟩ := h.out
  exact prefix_any ps h1 B R w hG
def sgs (l : List Nat) : Bool := l.all fun r => decide (isSign r)
theorem sgs_all {l : List Nat} (h : sgs l = true) : allSign l := fun r hr => by
  unfold sgs at h
  rw [List.all_eq_true] at h
  exact of_decide_eq_true (h r hr)
theorem lit_match (l : List UInt8) (rs : List Nat) (ps : List GP) (b : Bool) (h1 : decide (l = encAll rs) = true) (h2 : sgs rs = true) (h3 : decide (rs.length ≤ 100000) = true) (h4 : okGP ps ∧ ps.length ≤ 200) (h5 : matchB ps (rs.map fun r : Nat => (r : Int)) = b) :
    Hid (l = encAll rs ∧ allSign rs ∧ rs.length ≤ 100000 ∧ okGP ps ∧ ps.length ≤ 200 ∧ matchB ps (rs.map fun r : Nat => (r : Int)) = b) :=
  ⟨of_decide_eq_true h1, sgs_all h2, of_decide_eq_true h3, h4.1, h4.2, h5⟩

def gDog : List GP := [(false, 100, 0, 0), (true, 0, 1, 1), (false, 103, 0, 0)]
def gRat : List GP := [(false, 114, 0, 0), (true, 0, 1, 9223372036854775807), (false, 116, 0, 0)]
def gXy : List GP := [(false, 120, 0, 0), (true, 0, 0, 2), (false, 121, 0, 0)]
theorem p_dog : parseL 3 [100, 46, 103] [] = .ok gDog := by kernel_rfl
theorem p_rat : parseL 4 [114, 46, 43, 116] [] = .ok gRat := by kernel_rfl
theorem p_xy : parseL 8 [120, 46, 123, 48, 44, 50, 125, 121] [] = .ok gXy := by kernel_rfl

set_option maxHeartbeats 4000000 in
theorem head_any (w : World) (hT : UT w) : Calls Tryd.prog 8 #[] w fun e w' => e = .returned (.bool true) ∧ Below w.heap.size w w' := by
  have V1 : Hid (Lib.validD [100, 46, 103] = true) := by show _ = _; kernel_rfl
  have V2 : Hid (Lib.validD [114, 46, 43, 116] = true) := by show _ = _; kernel_rfl
  have V3 : Hid (Lib.validD [120, 46, 123, 48, 44, 50, 125, 121] = true) := by show _ = _; kernel_rfl
  have O1 := ok_of_parse (l := [100, 46, 103]) p_dog
  have O2 := ok_of_parse (l := [114, 46, 43, 116]) p_rat
  have O3 := ok_of_parse (l := [120, 46, 123, 48, 44, 50, 125, 121]) p_xy
  have A1 := lit_match [100, 111, 103] [100, 111, 103] gDog true (by kernel_rfl) (by kernel_rfl) (by kernel_rfl) O1 (by kernel_rfl)
  have A2 := lit_match [100, 105, 103] [100, 105, 103] gDog true (by kernel_rfl) (by kernel_rfl) (by kernel_rfl) O1 (by kernel_rfl)
  have A3 := lit_match [100, 103] [100, 103] gDog false (by kernel_rfl) (by kernel_rfl) (by kernel_rfl) O1 (by kernel_rfl)
  have B1 := lit_match [114, 97, 116] [114, 97, 116] gRat true (by kernel_rfl) (by kernel_rfl) (by kernel_rfl) O2 (by kernel_rfl)
  have B2 := lit_match [114, 111, 97, 115, 116] [114, 111, 97, 115, 116] gRat true (by kernel_rfl) (by kernel_rfl) (by kernel_rfl) O2 (by kernel_rfl)
  have B3 := lit_match [114, 116] [114, 116] gRat false (by kernel_rfl) (by kernel_rfl) (by kernel_rfl) O2 (by kernel_rfl)
  have C1 := lit_match [120, 121] [120, 121] gXy true (by kernel_rfl) (by kernel_rfl) (by kernel_rfl) O3 (by kernel_rfl)
  have C2 := lit_match [120, 97, 98, 121] [120, 97, 98, 121] gXy true (by kernel_rfl) (by kernel_rfl) (by kernel_rfl) O3 (by kernel_rfl)
  have C3 := lit_match [120, 97, 98, 99, 121] [120, 97, 98, 99, 121] gXy false (by kernel_rfl) (by kernel_rfl) (by kernel_rfl) O3 (by kernel_rfl)
  have D1 : Hid (prefL gRat = [114] ∧ gRat.length ≤ 200) := ⟨by kernel_rfl, O2.2⟩
  have HT := Lib.hid hT
  clear O1 O2 O3 hT
  go_enter Tryd.func8, Tryd.ntmps8
  go_wp2_with fail
  refine (parse_good [100, 46, 103] gDog V1 p_dog (by decide) _ HT.out).mono ?_
  rintro e w1 ⟨R1, rfl, G1, b1⟩
  have T1 := Lib.hid (ut_keep HT.out b1)
  go_wp2_with fail
  refine (parse_good [114, 46, 43, 116] gRat V2 p_rat (by decide) _ T1.out).mono ?_
  rintro e w2 ⟨R2, rfl, G2, b2⟩
  have T2 := Lib.hid (ut_keep T1.out b2)
  replace G1 := G1.keep b2
  replace b2 := b1.trans (b2.mono b1.size)
  go_wp2_with fail
  refine (parse_good [120, 46, 123, 48, 44, 50, 125, 121] gXy V3 p_xy (by decide) _ T2.out).mono ?_
  rintro e w3 ⟨R3, rfl, G3, b3⟩
  have T3 := Lib.hid (ut_keep T2.out b3)
  replace G1 := G1.keep b3
  replace G2 := G2.keep b3
  replace b3 := b2.trans (b3.mono b2.size)
  clear b1 b2 T1 T2
  go_wp2_with fail
  refine (match_is [100, 111, 103] _ gDog true A1 _ _ _ T3.out G1).mono ?_
  rintro e w4 ⟨rfl, b4⟩
  replace T3 := Lib.hid (ut_keep T3.out b4)
  replace G1 := G1.keep b4
  replace G2 := G2.keep b4
  replace G3 := G3.keep b4
  replace b3 := b3.trans (b4.mono b3.size)
  clear b4
  go_wp2_with fail
  refine (match_is [100, 105, 103] _ gDog true A2 _ _ _ T3.out G1).mono ?_
  rintro e w5 ⟨rfl, b4⟩
  replace T3 := Lib.hid (ut_keep T3.out b4)
  replace G1 := G1.keep b4
  replace G2 := G2.keep b4
  replace G3 := G3.keep b4
  replace b3 := b3.trans (b4.mono b3.size)
  clear b4
  go_wp2_with fail
  refine (match_is [100, 103] _ gDog false A3 _ _ _ T3.out G1).mono ?_
  rintro e w6 ⟨rfl, b4⟩
  replace T3 := Lib.hid (ut_keep T3.out b4)
  replace G2 := G2.keep b4
  replace G3 := G3.keep b4
  replace b3 := b3.trans (b4.mono b3.size)
  clear b4 G1
  go_wp2_with fail
  refine (match_is [114, 97, 116] _ gRat true B1 _ _ _ T3.out G2).mono ?_
  rintro e w7 ⟨rfl, b4⟩
  replace T3 := Lib.hid (ut_keep T3.out b4)
  replace G2 := G2.keep b4
  replace G3 := G3.keep b4
  replace b3 := b3.trans (b4.mono b3.size)
  clear b4
  go_wp2_with fail
  refine (match_is [114, 111, 97, 115, 116] _ gRat true B2 _ _ _ T3.out G2).mono ?_
  rintro e w8 ⟨rfl, b4⟩
  replace T3 := Lib.hid (ut_keep T3.out b4)
  replace G2 := G2.keep b4
  replace G3 := G3.keep b4
  replace b3 := b3.trans (b4.mono b3.size)
  clear b4
  go_wp2_with fail
  refine (match_is [114, 116] _ gRat false B3 _ _ _ T3.out G2).mono ?_
  rintro e w9 ⟨rfl, b4⟩
  replace T3 := Lib.hid (ut_keep T3.out b4)
  replace G2 := G2.keep b4
  replace G3 := G3.keep b4
  replace b3 := b3.trans (b4.mono b3.size)
  clear b4
  go_wp2_with fail
  refine (match_is [120, 121] _ gXy true C1 _ _ _ T3.out G3).mono ?_
  rintro e w10 ⟨rfl, b4⟩
  replace T3 := Lib.hid (ut_keep T3.out b4)
  replace G2 := G2.keep b4
  replace G3 := G3.keep b4
  replace b3 := b3.trans (b4.mono b3.size)
  clear b4
  go_wp2_with fail
  refine (match_is [120, 97, 98, 121] _ gXy true C2 _ _ _ T3.out G3).mono ?_
  rintro e w11 ⟨rfl, b4⟩
  replace T3 := Lib.hid (ut_keep T3.out b4)
  replace G2 := G2.keep b4
  replace G3 := G3.keep b4
  replace b3 := b3.trans (b4.mono b3.size)
  clear b4
  go_wp2_with fail
  refine (match_is [120, 97, 98, 99, 121] _ gXy false C3 _ _ _ T3.out G3).mono ?_
  rintro e w12 ⟨rfl, b4⟩
  replace G2 := G2.keep b4
  replace b3 := b3.trans (b4.mono b3.size)
  clear b4 T3 G3
  go_wp2_with fail
  refine (prefix_is gRat [114] D1 _ _ _ G2).mono ?_
  rintro e w13 ⟨rfl, b4⟩
  replace b3 := b3.trans (b4.mono b3.size)
  have hq : ((strOf [114]).toList == [114]) = true := by rw [ByteArray.toList_eq]; rfl
  clear b4 G2
  go_wp2_with fail
  go_ret
  exact ⟨rfl, b3⟩
end Go.Proofs.YtdijicdlglnlmaaDoor
