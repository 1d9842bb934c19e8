/- The laws' own 'match': part by part. -/
import Derived.Test.YtdijicdlglnlmaaDoorGlLaw
import Derived.Deep.RegionHeld3
import Derived.StillTailTactics
namespace Go.Proofs.YtdijicdlglnlmaaDoor
open Go.RowKit
set_option maxRecDepth 100000

/-- 's[k:]' of a slice whose elements take 'size' cells. -/
theorem CS.from_ {w : World} {B : Nat} {A : Option Addr} {xs : List Value} (h : CS w B A xs) (T E : TypeId) (size n c k : Nat) (hu : Tryd.prog.underlying T = some (.slice (Tryd.prog.elem T))) (he : Tryd.prog.elem T = E) (hz : ∀ W, (sizeOf E).run Tryd.prog W = .ok size W) (hn : n * size = xs.length) (hk : k ≤ n) (hc : n ≤ c) :
    ∃ A', (∀ W, (Instr.slice T (.slice A n c) (some (.int .i64 (k : Int))) none none).run Tryd.prog W = .ok (.slice A' (n - k) (c - k)) W) ∧ CS w B A' (xs.drop (k * size)) := by
  refine ⟨if c = k then A else A.map (·.add (k * size)), fun W => ?_, fun hp => ?_⟩
  · rw [run_slice_l W T A n c hu .i64 (k : Int) (by omega) (by omega), he, hz W]
    simp only [Result.andThen, sliced, Int.toNat_natCast]
  · rw [List.length_drop] at hp
    have hkn : k < n := by
      rcases Nat.lt_or_ge k n with h' | h'
      · exact h'
      · have : k = n := by omega
        rw [this] at hp; omega
    obtain ⟨b, o, rfl, hb, hcell⟩ := h (by omega)
    rw [if_neg (by omega)]
    refine ⟨b, o + k * size, by simp [add_addr], hb, fun j u hu => ?_⟩
    rw [List.getElem?_drop] at hu
    rw [Nat.add_assoc]
    exact hcell _ u hu
theorem matchB_nil (us : List Int) : matchB [] us = us.isEmpty := by
  rw [Bool.eq_iff_iff, match_iff]
  show us = [] ↔ _
  rw [List.isEmpty_iff]
theorem matchB_sign (r : Nat) (gs : List GP) (us : List Int) : matchB (sgn r :: gs) us = (match us with | [] => false | u :: t => (u == (r : Int)) && matchB gs t) := by
  cases us with
  | nil =>
    rw [Bool.eq_iff_iff, match_iff]
    constructor
    · rintro ⟨n, _, h1, _⟩
      have h2 : ([] : List Int).take n = [(r : Int)] := h1
      simp at h2
    · intro h; cases h
  | cons u t =>
    rw [Bool.eq_iff_iff, match_iff, Bool.and_eq_true, beq_iff_eq, match_iff]
    constructor
    · rintro ⟨n, _, h1, h2⟩
      have h3 : (u :: t).take n = [(r : Int)] := h1
      cases n with
      | zero => simp at h3
      | succ n =>
        rw [List.take_succ_cons, List.cons.injEq] at h3
        have hn : t.drop n = t := by
          have e := h3.2
          cases t with
          | nil => simp
          | cons x y => cases n with
            | zero => rfl
            | succ n => simp at e
        rw [List.drop_succ_cons, hn] at h2
        exact ⟨h3.1, h2⟩
    · rintro ⟨h1, h2⟩
      exact ⟨1, by simp, by rw [h1]; rfl, h2⟩
/-- None of the ways from lo on, ahead of k, goes on. -/
def noWay (gs : List GP) (us : List Int) (lo k : Nat) : Prop := ∀ n, lo ≤ n → n < k → matchB gs (us.drop n) = false
theorem matchB_dot (s lo : Nat) (hi : Int) (gs : List GP) (us : List Int) (hs : s = 0) : matchB ((true, (s : Int), (lo : Int), hi) :: gs) us = true ↔ ∃ n : Nat, n ≤ us.length ∧ lo ≤ n ∧ (n : Int) ≤ hi ∧ matchB gs (us.drop n) = true := by
  subst hs
  rw [match_iff]
  constructor
  · rintro ⟨n, hn, h1, h2⟩
    unfold okP at h1
    rw [if_pos rfl, List.length_take, Nat.min_eq_left hn] at h1
    simp only at h1
    exact ⟨n, hn, by omega, h1.2, (match_iff _ _).2 h2⟩
  · rintro ⟨n, hn, h1, h2, h3⟩
    refine ⟨n, hn, ?_, (match_iff _ _).1 h3⟩
    unfold okP
    rw [if_pos rfl, List.length_take, Nat.min_eq_left hn]
    exact ⟨by simp only; omega, h2⟩
/-- What the law's part of a kind above 0 says. -/
theorem nq_dot {x : LP × List UInt8 × GP} (h : NQ x) (hk : x.1.1 ≠ 0) : ∃ (lo : Nat) (hi ghi : Int), x.1.2.2.1 = (lo : Int) ∧ x.1.2.2.2 = hi ∧ x.2.2 = (true, ((0 : Nat) : Int), (lo : Int), ghi) ∧ lo ≤ 7 ∧ 0 ≤ hi ∧ hi ≤ 1048576 ∧ (∀ n : Nat, n ≤ 1000 → ((n : Int) ≤ hi ↔ (n : Int) ≤ ghi)) ∧ 1 ≤ x.1.1 ∧ x.1.1 ≤ 5 := by
  have hm : maxI = 9223372036854775807 := rfl
  rcases h with ⟨r, hr, rfl⟩ | rfl | rfl | rfl | rfl | ⟨lo, hi, h1, h2, h3, rfl⟩
  · exact absurd rfl hk
  · exact ⟨1, 1, 1, rfl, rfl, rfl, by omega, by omega, by omega, fun _ _ => Iff.rfl, by decide, by decide⟩
  · exact ⟨0, 1, 1, rfl, rfl, rfl, by omega, by omega, by omega, fun _ _ => Iff.rfl, by decide, by decide⟩
  · exact ⟨1, 1048576, maxI, rfl, rfl, rfl, by omega, by omega, by omega, fun n h => ⟨fun _ => by omega, fun _ => by omega⟩, by decide, by decide⟩
  · exact ⟨0, 1048576, maxI, rfl, rfl, rfl, by omega, by omega, by omega, fun n h => ⟨fun _ => by omega, fun _ => by omega⟩, by decide, by decide⟩
  · exact ⟨lo, hi, hi, rfl, rfl, rfl, h1, by omega, by omega, fun _ _ => Iff.rfl, by show (1 : Int) ≤ 5; omega, by show (5 : Int) ≤ 5; omega⟩
theorem nq_zero {x : LP × List UInt8 × GP} (h : NQ x) (hk : x.1.1 = 0) : ∃ r : Nat, x.1 = (0, (r : Int), 1, 1) ∧ x.2.2 = sgn r := by
  rcases h with ⟨r, hr, rfl⟩ | rfl | rfl | rfl | rfl | ⟨lo, hi, h1, h2, h3, rfl⟩
  · exact ⟨r, rfl, rfl⟩
  all_goals (simp at hk)
def uCells (us : List Int) : List Value := us.map fun u => .int .i32 u

theorem CS.up {w W : World} {A : Option Addr} {xs : List Value} (h : CS w w.heap.size A xs) (hb : Below w.heap.size w W) : CS W W.heap.size A xs := (h.below hb).more hb.size
def LMpost (b : Bool) (w : World) (e : Ending) (w' : World) : Prop := e = .returned (.bool b) ∧ Below w.heap.size w w'
set_option maxHeartbeats 8000000 in
theorem lmatch_any (ts : List (LP × List UInt8 × GP)) : ∀ (us : List Int) (A A2 : Option Addr) (n c m c2 : Nat) (w : World), allNQ ts → Hid (n = ts.length) → Hid (m = us.length) → n ≤ 100 → m ≤ 1000 → n ≤ c → c ≤ 9223372036854775807 → m ≤ c2 → c2 ≤ 9223372036854775807 → CS w w.heap.size A (qCells ts) → CS w w.heap.size A2 (uCells us) →
    Calls Tryd.prog 15 #[.slice A n c, .slice A2 m c2] w (LMpost (matchB (gps ts) us) w) := by
  induction ts with
  | nil =>
    intro us A A2 n c m c2 w _ HN HM hn hm hc hcm hc2 hcm2 hq hu
    obtain rfl : n = 0 := HN.out
    have HB : Hid (matchB (gps []) us = ((m : Int) == 0)) := by
      show _ = _
      rw [show gps [] = [] from rfl, matchB_nil, Bool.eq_iff_iff, List.isEmpty_iff, beq_iff_eq]
      have := HM.out
      constructor
      · rintro rfl; simp at this; omega
      · intro h; exact List.eq_nil_of_length_eq_zero (by omega)
    go_enter Tryd.func15, Tryd.ntmps15
    go_wp2_with fail
    go_ret
    exact ⟨by rw [HB.out]; rfl, Below.refl _ _⟩
  | cons x t ih =>
    intro us A A2 n c m c2 w hall HN HM hn hm hc hcm hc2 hcm2 hq hu
    have IH := Lib.hid ih
    clear ih
    have hx := hall x (by simp)
    have HT : Hid (allNQ t) := fun y hy => hall y (by simp [hy])
    clear hall
    obtain ⟨n', rfl⟩ : ∃ n', n = n' + 1 := ⟨t.length, HN.out⟩
    have HN2 : Hid (n' = t.length) := by have := HN.out; simp at this; exact this
    have hq0 := hq
    obtain ⟨pb, po, rfl, hpb, hcell⟩ := hq (by rw [qCells_len, List.length_cons]; omega)
    obtain ⟨q0, q1, q2, q3⟩ := qCells_at (x :: t) 0 (by simp)
    have m0 := hcell _ _ q0
    have m1 := hcell _ _ q1
    have m2 := hcell _ _ q2
    have m3 := hcell _ _ q3
    simp only [Nat.zero_mul, Nat.zero_add, List.getElem_cons_zero, Nat.add_zero] at m0 m1 m2 m3
    obtain ⟨A3, hsl, hcs3⟩ := hq0.from_ 22 31 4 (n' + 1) c 1 (by kernel_rfl) (by kernel_rfl) (fun W => by kernel_rfl) (by rw [qCells_len, List.length_cons, ← HN2.out]) (by omega) hc
    have hcs3' : CS w w.heap.size A3 (qCells t) := hcs3
    clear hcell q0 q1 q2 q3 hq0 hcs3 HN
    rw [show ((1 : Nat) : Int) = 1 from rfl, show n' + 1 - 1 = n' by omega] at hsl
    have HCS := Lib.hid hcs3'
    clear hcs3'
    by_cases hk : x.1.1 = 0
    · obtain ⟨r, e1, e2⟩ := nq_zero hx hk
      rw [e1] at m0 m1 m2 m3
      simp only at m0 m1 m2 m3
      have HB := Lib.hid (matchB_sign r (gps t) us)
      rw [← e2, show x.2.2 :: gps t = gps (x :: t) from rfl] at HB
      clear hx hk e1 e2
      have hn1 : (((n' : Int) + 1) == 0) = false := beq_eq_false_iff_ne.2 (by omega)
      cases us with
      | nil =>
        obtain rfl : m = 0 := HM.out
        have HB2 : Hid (matchB (gps (x :: t)) [] = false) := HB.out
        clear HB HM IH HT HCS
        have hd : decide ((0 : Int) < ((0 : Nat) : Int)) = false := rfl
        have hd2 : decide ((0 : Int) < 0) = false := rfl
        go_enter Tryd.func15, Tryd.ntmps15
        go_wp2_with fail
        go_quiet ((fail))
        go_wp2_with fail
        go_ret
        exact ⟨by rw [HB2.out]; rfl, below_drewN ((Below.refl _ _).alloc (Nat.le_refl _) _) nq⟩
      | cons u us' =>
        obtain ⟨m', rfl⟩ : ∃ m', m = m' + 1 := ⟨us'.length, HM.out⟩
        have HM2 : Hid (m' = us'.length) := by have := HM.out; simp at this; exact this
        have hu0 := hu
        obtain ⟨ub, uo, rfl, hub, hucell⟩ := hu (by simp [uCells])
        have mu := hucell 0 (.int .i32 u) rfl
        simp only [Nat.add_zero] at mu
        obtain ⟨A4, hsl4, hcs4⟩ := hu0.from_ 37 21 1 (m' + 1) c2 1 (by kernel_rfl) (by kernel_rfl) (fun W => by kernel_rfl) (by simp [uCells]; exact HM2.out) (by omega) hc2
        rw [show ((1 : Nat) : Int) = 1 from rfl, show m' + 1 - 1 = m' by omega] at hsl4
        have HCS4 : Hid (CS w w.heap.size A4 (uCells us')) := hcs4
        have HB2 : Hid (matchB (gps (x :: t)) (u :: us') = ((u == (r : Int)) && matchB (gps t) us')) := HB.out
        have hd : decide ((0 : Int) < (m' : Int) + 1) = true := decide_eq_true (by omega)
        have hd1 : (0 : Int) < (m' : Int) + 1 := by omega
        clear hu0 hucell hcs4 HB HM
        cases heq : (u == (r : Int))
        · rw [heq] at HB2
          clear IH HT HCS HCS4
          go_enter Tryd.func15, Tryd.ntmps15
          go_wp2_with fail
          go_quiet ((fail))
          go_wp2_with fail
          go_ret
          exact ⟨by rw [HB2.out]; rfl, below_drewN ((Below.refl _ _).alloc (Nat.le_refl _) _) nq⟩
        · rw [heq] at HB2
          go_enter Tryd.func15, Tryd.ntmps15
          go_wp2_with fail
          have hltu : ub < w.heap.size := hub
          have HIH := Lib.hid (fun (W : World) (hb : Below w.heap.size w W) => IH.out us' A3 A4 n' (c - 1) m' (c2 - 1) W HT.out HN2 HM2 (by omega) (by omega) (by omega) (by omega) (by omega) (by omega) (HCS.out.up hb) (HCS4.out.up hb))
          go_region_held3 (fun W => W.cell? ⟨ub, uo, none⟩ = some (.int .i32 u) ∧ W.cell? ⟨w.heap.size, 1, none⟩ = some (.int .i32 (r : Int)))
            (first | go_keep | (exact ⟨(hb4.cell (p := ⟨ub, uo, none⟩) (by simp; omega)).trans (by simp [*]), (hb4.cell (p := ⟨w.heap.size, 1, none⟩) (by simp)).trans (by simp)⟩))
            ((go_at_call 15; refine (HIH.out _ (((Below.refl _ _).alloc (Nat.le_refl _) _).drew)).mono ?_; rintro e w4 ⟨rfl, hb4⟩))
          go_wp2_with fail
          go_ret
          exact ⟨by rw [HB2.out]; rfl, (((Below.refl _ _).alloc (Nat.le_refl _) _).drew).trans (hb4.mono (by simp))⟩
    · obtain ⟨lo, hi, ghi, e1, e2, e3, hlo, hhi0, hhi, hiff, hK1, hK2⟩ := nq_dot hx hk
      have HB := Lib.hid (matchB_dot 0 lo ghi (gps t) us rfl)
      rw [← e3, show x.2.2 :: gps t = gps (x :: t) from rfl] at HB
      rw [e1] at m2
      rw [e2] at m3
      generalize x.1.1 = K at *
      generalize x.1.2.1 = sg at *
      have hK0 : (K == 0) = false := beq_eq_false_iff_ne.2 hk
      have hn1 : (((n' : Int) + 1) == 0) = false := beq_eq_false_iff_ne.2 (by omega)
      have HIFF := Lib.hid hiff
      clear hx hk e1 e2 e3 hiff hK1 hK2
      go_enter Tryd.func15, Tryd.ntmps15
      go_wp2_with fail
      obtain ⟨W, hW⟩ : ∃ W, W = w.alloc (.cells #[.int .i64 K, .int .i32 sg, .int .i64 (lo : Int), .int .i64 hi] 31) := ⟨_, rfl⟩
      rw [← hW]
      have hWb : Below w.heap.size w W := by rw [hW]; exact (Below.refl _ _).alloc (Nat.le_refl _) _
      have hWs : w.heap.size < W.heap.size := by rw [hW]; simp
      have hWc : W.cell? ⟨w.heap.size, 3, none⟩ = some (.int .i64 hi) := by rw [hW]; simp
      clear hW
      go_loopw [6] (fun i wr => ∃ k : Nat, lo ≤ k ∧ k ≤ 1010 ∧ i = .int .i64 k ∧ Hid (noWay (gps t) us lo k) ∧ Below W.heap.size W wr) (fun i _ => 1010 - (intOf i).toNat)
      case atStart => exact ⟨lo, Nat.le_refl _, by omega, rfl, fun n h1 h2 => by omega, Below.refl _ _⟩
      case round =>
        obtain ⟨k, hk1, hk2, rfl, HW, hbel⟩ := hrel
        have hp : wr.cell? ⟨w.heap.size, 3, none⟩ = some (.int .i64 hi) := (hbel.cell (p := ⟨w.heap.size, 3, none⟩) hWs).trans hWc
        have bw : Below w.heap.size w wr := hWb.trans (hbel.mono (Nat.le_of_lt hWs))
        by_cases hc : (k : Int) ≤ hi ∧ k ≤ m
        · obtain ⟨hc1, hc2'⟩ := hc
          have hc3 : (k : Int) ≤ (m : Int) := by omega
          obtain ⟨A4, hsl4, hcs4⟩ := hu.from_ 37 21 1 m c2 k (by kernel_rfl) (by kernel_rfl) (fun W => by kernel_rfl) (by simp [uCells]; exact HM.out) hc2' hc2
          have HCS4 : Hid (CS w w.heap.size A4 (uCells (us.drop k))) := by
            show CS _ _ _ _
            rw [show uCells (us.drop k) = (uCells us).drop (k * 1) by simp [uCells]]
            exact hcs4
          have HMD : Hid (m - k = (us.drop k).length) := by show _ = _; rw [List.length_drop, ← HM.out]
          have HIH := Lib.hid (fun (W' : World) (hb : Below w.heap.size w W') => IH.out (us.drop k) A3 A4 n' (c - 1) (m - k) (c2 - k) W' HT.out HN2 HMD (by omega) (by omega) (by omega) (by omega) (by omega) (by omega) (HCS.out.up hb) (HCS4.out.up hb))
          cases hb : matchB (gps t) (us.drop k)
          · have HW2 : Hid (noWay (gps t) us lo (k + 1)) := fun n h1 h2 => by
              by_cases e : n = k
              · rw [e]; exact hb
              · exact HW.out n h1 (by omega)
            rw [hb] at HIH
            clear hb hcs4
            go_wp2_with fail
            go_region_held3 (fun _ => True) (trivial) ((go_at_call 15; refine (HIH.out _ (bw.drew)).mono ?_; rintro e w4 ⟨rfl, hb4⟩))
            go_wp2_with fail
            exact ⟨⟨k + 1, by omega, by omega, by go_num, HW2, (hbel.drew).trans (hb4.mono hbel.size)⟩, by simp [intOf]; omega⟩
          · have HB2 : Hid (matchB (gps (x :: t)) us = true) := HB.out.2 ⟨k, by rw [← HM.out]; exact hc2', hk1, (HIFF.out k (by omega)).1 hc1, hb⟩
            rw [hb] at HIH
            clear hb hcs4
            go_wp2_with fail
            go_region_held3 (fun _ => True) (trivial) ((go_at_call 15; refine (HIH.out _ (bw.drew)).mono ?_; rintro e w4 ⟨rfl, hb4⟩))
            go_wp2_with fail
            go_ret
            exact ⟨by rw [HB2.out]; rfl, (bw.drew).trans (hb4.mono bw.size)⟩
        · have HB2 : Hid (matchB (gps (x :: t)) us = false) := by
            show _ = _
            cases e : matchB (gps (x :: t)) us with
            | false => rfl
            | true =>
              obtain ⟨n, h1, h2, h3, h4⟩ := HB.out.1 e
              have h5 := (HIFF.out n (by have := HM.out; omega)).2 h3
              have h6 := HW.out n h2 (by have := HM.out; omega)
              rw [h4] at h6; cases h6
          by_cases hc1 : (k : Int) ≤ hi
          · have hc2' : (m : Int) < (k : Int) := by omega
            go_wp2_with fail
            go_ret
            exact ⟨by rw [HB2.out]; rfl, bw⟩
          · have hc2' : hi < (k : Int) := by omega
            go_wp2_with fail
            go_ret
            exact ⟨by rw [HB2.out]; rfl, bw⟩
end Go.Proofs.YtdijicdlglnlmaaDoor
