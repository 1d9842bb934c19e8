/- Parse, Match, Prefix as contracts side by side. -/
import Derived.Test.YtjeccmmhmdgdgaaGreatDoorGlWalk7
import Derived.KernelRfl
namespace Go.Proofs.YtjeccmmhmdgdgaaGreatDoor
open Go.RowKit
set_option maxRecDepth 100000

theorem GlobAt.keep {w w' : World} {B R : Nat} {ps : List GP} (h : GlobAt w B R ps) (hb : Below w.heap.size w w') : GlobAt w' B R ps := by
  obtain ⟨h1, h2, h3, v, h4, h5⟩ := h
  exact ⟨h1, Nat.lt_of_lt_of_le h2 hb.size, (fz_keep hb h2 0).trans h3, v, (hb.cell (p := ⟨R, 0, none⟩) h2).trans h4, own_below h5 hb⟩
theorem parse_len : ∀ (f : Nat) (t : List UInt8) (acc ps : List GP), parseL f t acc = .ok ps → acc.length ≤ 200 → ps.length ≤ 200
  | 0, t, acc, ps, h, ha => by rw [parseL] at h; cases h; exact ha
  | f + 1, t, acc, ps, h, ha => by
    rw [parseL] at h
    by_cases he : t = []
    · rw [if_pos he] at h; cases h; exact ha
    · rw [if_neg he] at h
      split at h
      · cases h
      · split at h
        · cases h
        · exact parse_len f _ _ ps h (by simp; omega)
theorem parse_good (l : List UInt8) (ps : List GP) (hv : Hid (Lib.validD l = true)) (hp : Hid (parseL l.length l [] = .ok ps)) (hl : l.length ≤ 1000000) (w : World) (hT : UT w) :
    Calls Tryz.prog 31 #[.string (strOf l)] w fun e w' => ∃ R, e = .returned (.tuple #[.pointer (some ⟨R, 0, none⟩), .int .i64 0]) ∧ GlobAt w' w.heap.size R ps ∧ Below w.heap.size w w' := by
  refine (parse_any l hl w hT).mono ?_
  rintro e w' ⟨hb, ⟨h1, _⟩ | ⟨_, ⟨c, h1, _⟩ | ⟨ps', R, h1, he, hG⟩⟩⟩
  · rw [hv.out] at h1; cases h1
  · rw [hp.out] at h1; cases h1
  · rw [hp.out] at h1; cases h1; exact ⟨R, he, hG, hb⟩
theorem parse_wrong (l : List UInt8) (c : Int) (hv : Hid (Lib.validD l = true)) (hp : Hid (parseL l.length l [] = .error c)) (hl : l.length ≤ 1000000) (w : World) (hT : UT w) :
    Calls Tryz.prog 31 #[.string (strOf l)] w fun e w' => e = .returned (.tuple #[.pointer none, .int .i64 c]) ∧ Below w.heap.size w w' := by
  refine (parse_any l hl w hT).mono ?_
  rintro e w' ⟨hb, ⟨h1, _⟩ | ⟨_, ⟨c', h1, he⟩ | ⟨ps', R, h1, he, hG⟩⟩⟩
  · rw [hv.out] at h1; cases h1
  · rw [hp.out] at h1; cases h1; exact ⟨he, hb⟩
  · rw [hp.out] at h1; cases h1
theorem parse_utf (l : List UInt8) (hv : Hid (Lib.validD l = false)) (hl : l.length ≤ 1000000) (w : World) (hT : UT w) :
    Calls Tryz.prog 31 #[.string (strOf l)] w fun e w' => e = .returned (.tuple #[.pointer none, .int .i64 10]) ∧ Below w.heap.size w w' := by
  refine (parse_any l hl w hT).mono ?_
  rintro e w' ⟨hb, ⟨_, he⟩ | ⟨h1, _⟩⟩
  · exact ⟨he, hb⟩
  · rw [hv.out] at h1; cases h1
theorem ok_of_parse {l : List UInt8} {ps : List GP} (h : parseL l.length l [] = .ok ps) : okGP ps ∧ ps.length ≤ 200 :=
  ⟨parse_ok _ _ _ _ h (fun _ h => by simp at h), parse_len _ _ _ _ h (by simp)⟩
theorem match_is (l : List UInt8) (rs : List Nat) (ps : List GP) (b : Bool) (h : Hid (l = encAll rs ∧ allSign rs ∧ rs.length ≤ 100000 ∧ okGP ps ∧ ps.length ≤ 200 ∧ matchB ps (rs.map fun r : Nat => (r : Int)) = b)) (B R : Nat) (w : World) (hT : UT w) (hG : GlobAt w B R ps) :
    Calls Tryz.prog 22 #[.pointer (some ⟨R, 0, none⟩), .string (strOf l)] w fun e w' => e = .returned (.bool b) ∧ Below w.heap.size w w' := by
  obtain ⟨rfl, h1, h2, h3, h4, rfl⟩ := h.out
  exact match_any rs h1 h2 ps h4 h3 B R w hT hG
theorem prefix_is (ps : List GP) (q : List UInt8) (h : Hid (prefL ps = q ∧ ps.length ≤ 200)) (B R : Nat) (w : World) (hG : GlobAt w B R ps) :
    Calls Tryz.prog 39 #[.pointer (some ⟨R, 0, none⟩)] w fun e w' => e = .returned (.string (strOf q)) ∧ Below w.heap.size w w' := by
  obtain ⟨rfl, h1⟩ := h.out
  exact prefix_any ps h1 B R w hG
def sgs (l : List Nat) : Bool := l.all fun r => decide (isSign r)
theorem sgs_all {l : List Nat} (h : sgs l = true) : allSign l := fun r hr => by
  unfold sgs at h
  rw [List.all_eq_true] at h
  exact of_decide_eq_true (h r hr)
theorem lit_match (l : List UInt8) (rs : List Nat) (ps : List GP) (b : Bool) (h1 : decide (l = encAll rs) = true) (h2 : sgs rs = true) (h3 : decide (rs.length ≤ 100000) = true) (h4 : okGP ps ∧ ps.length ≤ 200) (h5 : matchB ps (rs.map fun r : Nat => (r : Int)) = b) :
    Hid (l = encAll rs ∧ allSign rs ∧ rs.length ≤ 100000 ∧ okGP ps ∧ ps.length ≤ 200 ∧ matchB ps (rs.map fun r : Nat => (r : Int)) = b) :=
  ⟨of_decide_eq_true h1, sgs_all h2, of_decide_eq_true h3, h4.1, h4.2, h5⟩

end Go.Proofs.YtjeccmmhmdgdgaaGreatDoor
