/- The laws' parts, made plain: as texts, as parts of a pattern. No Go in sight. -/
import Derived.Test.YtdijicdlglnlmaaDoorGlSigns
import Derived.Lib.ItoaNum
namespace Go.Proofs.YtdijicdlglnlmaaDoor
open Go.Lib
set_option maxRecDepth 100000

/-- A part of the laws: its kind, its sign, how often at least and at most. -/
abbrev LP := Int × Int × Int × Int
def braT (lo hi : Nat) : List UInt8 := 46 :: 123 :: (decDigits lo ++ 44 :: (decDigits hi ++ [125]))
/-- A part as the laws have it; its text; the part of a pattern that it is. -/
def NQ (x : LP × List UInt8 × GP) : Prop :=
  (∃ r : Nat, isSign r ∧ x = ((0, (r : Int), 1, 1), 92 :: encS r, sgn r)) ∨
  x = ((1, 0, 1, 1), [46], (true, 0, 1, 1)) ∨ x = ((2, 0, 0, 1), [46, 63], (true, 0, 0, 1)) ∨ x = ((3, 0, 1, 1048576), [46, 43], (true, 0, 1, maxI)) ∨ x = ((4, 0, 0, 1048576), [46, 42], (true, 0, 0, maxI)) ∨
  (∃ lo hi : Nat, lo ≤ 7 ∧ lo ≤ hi ∧ hi ≤ 14 ∧ x = ((5, 0, (lo : Int), (hi : Int)), braT lo hi, (true, 0, (lo : Int), (hi : Int))))
def decS (i : Nat) : List UInt8 := if i < 10 then [UInt8.ofNat (48 + i)] else [UInt8.ofNat (48 + i / 10), UInt8.ofNat (48 + i % 10)]
theorem dec_eq (i : Nat) (h : i < 100) : decDigits i = decS i := by
  unfold decS
  rw [decDigits]
  by_cases h1 : i < 10
  · rw [dif_pos h1, if_pos h1]
  · rw [dif_neg h1, if_neg h1, decDigits, dif_pos (by omega)]
    rfl
theorem dec_small2 : ∀ i : Fin 15, (decS i.val).all (fun c => !(c == 44) && !(c == 125)) = true ∧ numL (decS i.val) = (i.val : Int) ∧ (decS i.val).length ≤ 2 ∧ (decS i.val).all (fun c => decide (c.toNat < 128)) = true := by decide +kernel
theorem dec_small (i : Fin 15) : (decDigits i.val).all (fun c => !(c == 44) && !(c == 125)) = true ∧ numL (decDigits i.val) = (i.val : Int) ∧ (decDigits i.val).length ≤ 2 := by
  rw [dec_eq i.val (by omega)]
  obtain ⟨h1, h2, h3, _⟩ := dec_small2 i
  exact ⟨h1, h2, h3⟩
theorem bra_part (lo hi : Nat) (h1 : lo ≤ 7) (h2 : lo ≤ hi) (h3 : hi ≤ 14) : isPart (braT lo hi) (true, 0, (lo : Int), (hi : Int)) := by
  have a := dec_small ⟨lo, by omega⟩
  have b := dec_small ⟨hi, by omega⟩
  simp only at a b
  refine part_braces (decDigits lo) (decDigits hi) lo hi (fun x hx => ?_) (fun x hx => ?_) a.2.1 b.2.1 (by omega) (by omega)
  · have := List.all_eq_true.1 a.1 x hx
    simpa using this
  · have := List.all_eq_true.1 b.1 x hx
    simp only [Bool.and_eq_true, Bool.not_eq_true', beq_eq_false_iff_ne] at this
    exact this.2
theorem nq_part {x : LP × List UInt8 × GP} (h : NQ x) : isPart x.2.1 x.2.2 := by
  rcases h with ⟨r, hr, rfl⟩ | rfl | rfl | rfl | rfl | ⟨lo, hi, h1, h2, h3, rfl⟩
  · exact part_sign r hr
  · exact part_one
  · exact part_ask
  · exact part_plus
  · exact part_star
  · exact bra_part lo hi h1 h2 h3
theorem nq_ok {x : LP × List UInt8 × GP} (h : NQ x) : 0 ≤ x.2.2.2.2.1 ∧ x.2.2.2.2.1 ≤ 1000 := by
  rcases h with ⟨r, hr, rfl⟩ | rfl | rfl | rfl | rfl | ⟨lo, hi, h1, h2, h3, rfl⟩
  · exact ⟨Int.le_refl _, by show (0 : Int) ≤ 1000; omega⟩
  · decide
  · decide
  · decide
  · decide
  · simp only; omega
theorem nq_len {x : LP × List UInt8 × GP} (h : NQ x) : x.2.1.length ≤ 8 := by
  rcases h with ⟨r, hr, rfl⟩ | rfl | rfl | rfl | rfl | ⟨lo, hi, h1, h2, h3, rfl⟩
  · have := (encS_len r).2; simp only [List.length_cons]; omega
  · decide
  · decide
  · decide
  · decide
  · have a := dec_small ⟨lo, by omega⟩
    have b := dec_small ⟨hi, by omega⟩
    simp only at a b
    simp only [braT, List.length_cons, List.length_append, List.length_nil]
    omega
def txts (ts : List (LP × List UInt8 × GP)) : List UInt8 := ts.flatMap fun x => x.2.1
def gps (ts : List (LP × List UInt8 × GP)) : List GP := ts.map fun x => x.2.2
def allNQ (ts : List (LP × List UInt8 × GP)) : Prop := ∀ x ∈ ts, NQ x
def qCells (ts : List (LP × List UInt8 × GP)) : List Value := ts.flatMap fun x => [.int .i64 x.1.1, .int .i32 x.1.2.1, .int .i64 x.1.2.2.1, .int .i64 x.1.2.2.2]
theorem txts_eq (ts : List (LP × List UInt8 × GP)) : txts ts = (ts.map fun x => x.2).flatMap Prod.fst := by
  induction ts with
  | nil => rfl
  | cons x t ih => rw [List.map_cons, List.flatMap_cons, ← ih]; rfl
theorem txts_parse (ts : List (LP × List UInt8 × GP)) (h : allNQ ts) (hl : ts.length ≤ 200) : parseL (txts ts).length (txts ts) [] = .ok (gps ts) := by
  have := parts_parse (ts.map fun x => x.2) (txts ts).length [] (by rw [← txts_eq]; exact Nat.le_refl _) (fun y hy => by
    obtain ⟨x, hx, rfl⟩ := List.mem_map.1 hy
    exact nq_part (h x hx)) (by simpa using hl)
  rw [← txts_eq, List.nil_append, List.map_map] at this
  exact this
theorem ascii_valid (l : List UInt8) (h : l.all (fun c => decide (c.toNat < 128)) = true) (x : List UInt8) : validD (l ++ x) = validD x := by
  induction l with
  | nil => rfl
  | cons c t ih =>
    rw [List.all_cons, Bool.and_eq_true, decide_eq_true_eq] at h
    have e : c :: t ++ x = encS c.toNat ++ (t ++ x) := by
      unfold encS
      rw [if_pos h.1]
      simp
    rw [e, valid_enc_app c.toNat (by unfold isSign; omega), ih h.2]
theorem dec_ascii (i : Fin 15) : (decDigits i.val).all (fun c => decide (c.toNat < 128)) = true := by rw [dec_eq i.val (by omega)]; exact (dec_small2 i).2.2.2
theorem nq_valid {x : LP × List UInt8 × GP} (h : NQ x) (y : List UInt8) : validD (x.2.1 ++ y) = validD y := by
  rcases h with ⟨r, hr, rfl⟩ | rfl | rfl | rfl | rfl | ⟨lo, hi, h1, h2, h3, rfl⟩
  · rw [show (92 :: encS r) ++ y = encS 92 ++ (encS r ++ y) from by simp [encS], valid_enc_app 92 (by unfold isSign; omega), valid_enc_app r hr]
  · exact ascii_valid _ (by decide) y
  · exact ascii_valid _ (by decide) y
  · exact ascii_valid _ (by decide) y
  · exact ascii_valid _ (by decide) y
  · refine ascii_valid _ ?_ y
    have a := dec_ascii ⟨lo, by omega⟩
    have b := dec_ascii ⟨hi, by omega⟩
    simp only at a b
    simp only [braT, List.all_cons, List.all_append, a, b]
    rfl
theorem txts_valid (ts : List (LP × List UInt8 × GP)) (h : allNQ ts) : validD (txts ts) = true := by
  induction ts with
  | nil => rfl
  | cons x t ih => rw [show txts (x :: t) = x.2.1 ++ txts t from rfl, nq_valid (h x (by simp))]; exact ih fun y hy => h y (by simp [hy])
theorem txts_len (ts : List (LP × List UInt8 × GP)) (h : allNQ ts) : (txts ts).length ≤ 8 * ts.length := by
  induction ts with
  | nil => simp [txts]
  | cons x t ih =>
    have := ih fun y hy => h y (by simp [hy])
    have h2 := nq_len (h x (by simp))
    rw [show txts (x :: t) = x.2.1 ++ txts t from rfl, List.length_append, List.length_cons]
    omega
theorem gps_ok (ts : List (LP × List UInt8 × GP)) (h : allNQ ts) : okGP (gps ts) := fun p hp => by
  obtain ⟨x, hx, rfl⟩ := List.mem_map.1 hp
  exact nq_ok (h x hx)
theorem qCells_at : ∀ (ts : List (LP × List UInt8 × GP)) (k : Nat) (h : k < ts.length), (qCells ts)[k * 4]? = some (.int .i64 ts[k].1.1) ∧ (qCells ts)[k * 4 + 1]? = some (.int .i32 ts[k].1.2.1) ∧ (qCells ts)[k * 4 + 2]? = some (.int .i64 ts[k].1.2.2.1) ∧ (qCells ts)[k * 4 + 3]? = some (.int .i64 ts[k].1.2.2.2)
  | [], _, h => absurd h (by simp)
  | p :: t, 0, _ => ⟨rfl, rfl, rfl, rfl⟩
  | p :: t, k + 1, h => by
    have ih := qCells_at t k (by simpa using h)
    have e : qCells (p :: t) = .int .i64 p.1.1 :: .int .i32 p.1.2.1 :: .int .i64 p.1.2.2.1 :: .int .i64 p.1.2.2.2 :: qCells t := rfl
    rw [e, show (k + 1) * 4 = k * 4 + 1 + 1 + 1 + 1 by omega]
    simpa using ih
theorem qCells_len (ts : List (LP × List UInt8 × GP)) : (qCells ts).length = ts.length * 4 := by
  induction ts with
  | nil => rfl
  | cons p t ih => rw [show qCells (p :: t) = [.int .i64 p.1.1, .int .i32 p.1.2.1, .int .i64 p.1.2.2.1, .int .i64 p.1.2.2.2] ++ qCells t from rfl, List.length_append, ih]; simp; omega
end Go.Proofs.YtdijicdlglnlmaaDoor
