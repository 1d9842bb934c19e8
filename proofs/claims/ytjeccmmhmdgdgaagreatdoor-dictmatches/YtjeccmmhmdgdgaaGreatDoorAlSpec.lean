/- Words as options see them, as plain functions. No Go in sight. -/
import Derived.Test.YtjeccmmhmdgdgaaGreatDoorMapSpec
import Derived.Test.YtjeccmmhmdgdgaaGreatDoorAsSpec
namespace Go.Proofs.YtjeccmmhmdgdgaaGreatDoor
open Go.Lib
set_option maxRecDepth 100000

/-- A sign as options see it. -/
def signO (cs mk : Bool) (r : Int) : Int := (if cs then id else lowI) ((if mk then id else plainI) r)
def signN (cs mk : Bool) (r : Nat) : Int := signO cs mk (r : Int)
theorem signO_bd (cs mk : Bool) (r : Int) (h1 : -2147483648 ≤ r) (h2 : r ≤ 2147483647) : -2147483648 ≤ signO cs mk r ∧ signO cs mk r ≤ 2147483647 := by
  have hp := plain_bounds r h1 h2
  have hl := low_bounds r h1 h2
  have hb := low_bounds (plainI r) hp.1 hp.2
  cases cs <;> cases mk <;> simp only [signO, id, if_true, if_false, Bool.false_eq_true] <;> omega
theorem signN_sign (cs mk : Bool) (r : Nat) (h : isSign r) : 0 ≤ signN cs mk r ∧ isSign (signN cs mk r).toNat := by
  have hp := plain_sgn r h
  have hl := low_sign r h
  have hb := low_sign _ hp.2
  rw [show lowN (plainN r).toNat = lowI (plainI (r : Int)) by unfold lowN; rw [toN _ hp.1]; rfl] at hb
  cases cs <;> cases mk
  · exact hb
  · exact hl
  · exact hp
  · exact ⟨by show 0 ≤ (r : Int); omega, by show isSign ((r : Int)).toNat; simpa using h⟩
def wholeL (cs mk : Bool) (l : List UInt8) : List UInt8 := mapL (signN cs mk) l
def ofL (cs mk st : Bool) (l : List UInt8) : List UInt8 := if st then St.stemL (wholeL cs mk l) else wholeL cs mk l
/-- The same step by step, as the page says it. -/
def marksL (mk : Bool) (l : List UInt8) : List UInt8 := if mk then l else mapL plainN l
def caseL (cs : Bool) (l : List UInt8) : List UInt8 := if cs then l else mapL lowN l
theorem whole_steps (cs mk : Bool) (l : List UInt8) : caseL cs (marksL mk l) = wholeL cs mk l := by
  cases cs <;> cases mk
  · show mapL lowN (mapL plainN l) = mapL _ l
    rw [mapL_mapL _ _ plain_sgn]
    refine mapL_congr _ _ (fun r hs => ?_) l
    show lowI ((plainN r).toNat : Int) = _
    rw [toN _ (plain_sgn r hs).1]
    rfl
  · rfl
  · rfl
  · exact (mapL_id l).symm
theorem whole_id (l : List UInt8) : wholeL true true l = l := mapL_id l
theorem signO_twice (cs mk : Bool) (r : Int) : signO cs mk (signO cs mk r) = signO cs mk r := by
  cases cs <;> cases mk
  · show lowI (plainI (lowI (plainI r))) = lowI (plainI r)
    rw [plain_low, plain_twice, lowI_twice]
  · exact lowI_twice r
  · exact plain_twice r
  · rfl
/-- Fewer options that tell apart, behind more of them. -/
theorem signO_wider (cs mk cs2 mk2 : Bool) (hc : cs2 = true → cs = true) (hm : mk2 = true → mk = true) (r : Int) : signO cs2 mk2 (signO cs mk r) = signO cs2 mk2 r := by
  cases cs <;> cases mk <;> cases cs2 <;> cases mk2 <;> simp at hc hm
  · exact signO_twice _ _ r
  · show lowI (plainI (lowI r)) = lowI (plainI r)
    rw [plain_low, lowI_twice]
  · exact signO_twice _ _ r
  · show lowI (plainI (plainI r)) = lowI (plainI r)
    rw [plain_twice]
  · exact signO_twice _ _ r
  all_goals rfl
theorem wholeL_wider (cs mk cs2 mk2 : Bool) (hc : cs2 = true → cs = true) (hm : mk2 = true → mk = true) (l : List UInt8) : wholeL cs2 mk2 (wholeL cs mk l) = wholeL cs2 mk2 l := by
  unfold wholeL
  rw [mapL_mapL _ _ (signN_sign cs mk)]
  refine mapL_congr _ _ (fun r hs => ?_) l
  show signO cs2 mk2 ((signN cs mk r).toNat : Int) = _
  rw [toN _ (signN_sign cs mk r hs).1]
  exact signO_wider cs mk cs2 mk2 hc hm _
theorem wholeL_twice (cs mk : Bool) (l : List UInt8) : wholeL cs mk (wholeL cs mk l) = wholeL cs mk l := wholeL_wider cs mk cs mk id id l
theorem wholeL_len (cs mk : Bool) (l : List UInt8) : (wholeL cs mk l).length ≤ 4 * l.length := mapL_len _ l
theorem stemL_len (l : List UInt8) : (St.stemL l).length ≤ l.length := by
  unfold St.stemL
  split
  · exact Nat.le_refl _
  · rename_i h
    have h' : ¬ l.length < 3 ∧ St.smallL l = true := by simpa using h
    exact (St.fine_stems (by omega) h'.2).1
theorem ofL_len (cs mk st : Bool) (l : List UInt8) : (ofL cs mk st l).length ≤ 4 * l.length := by
  have := wholeL_len cs mk l
  unfold ofL
  split
  · exact Nat.le_trans (stemL_len _) this
  · exact this
def stopWords : List (List UInt8) := [[97], [97, 110], [97, 110, 100], [97, 114, 101], [97, 115], [97, 116], [98, 101], [98, 117, 116], [98, 121], [102, 111, 114], [105, 102], [105, 110], [105, 110, 116, 111], [105, 115], [105, 116], [110, 111], [110, 111, 116], [111, 102], [111, 110], [111, 114], [115, 117, 99, 104], [116, 104, 97, 116], [116, 104, 101], [116, 104, 101, 105, 114], [116, 104, 101, 110], [116, 104, 101, 114, 101], [116, 104, 101, 115, 101], [116, 104, 101, 121], [116, 104, 105, 115], [116, 111], [119, 97, 115], [119, 105, 108, 108], [119, 105, 116, 104]]
def stopB (l : List UInt8) : Bool := stopWords.any fun x => decide (mapL lowN l = x)
end Go.Proofs.YtjeccmmhmdgdgaaGreatDoor
