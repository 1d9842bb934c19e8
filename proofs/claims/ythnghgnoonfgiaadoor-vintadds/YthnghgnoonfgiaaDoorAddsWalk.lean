/- VintAdds: it answers true; nothing that was there is written. -/
import Derived.Test.YthnghgnoonfgiaaDoorHeadWalk
import Derived.Test.YthnghgnoonfgiaaDoorMem3
import Derived.Deep.RegionHeld3
import Derived.WalkKit
import Derived.WalkSpells
import Derived.Outline
import Derived.Lib.Hide
namespace Go.Proofs.YthnghgnoonfgiaaDoor
open Go.RowKit
set_option maxRecDepth 100000

/-- Bytes laid over each other. -/
def over (l m : List UInt8) (k : Nat) : List UInt8 := List.zipWith (· ^^^ ·) (l.take k) (m.take k)
theorem over_len (l m : List UInt8) (k : Nat) (h : k ≤ l.length) (h' : k ≤ m.length) : (over l m k).length = k := by unfold over; rw [List.length_zipWith, List.length_take, List.length_take]; omega
theorem over_succ (l m : List UInt8) (k : Nat) (h : k < l.length) (h' : k < m.length) : over l m (k + 1) = over l m k ++ [l[k] ^^^ m[k]] := by
  unfold over
  rw [take_snoc8 l k h, take_snoc8 m k h', List.zipWith_append (by rw [List.length_take, List.length_take]; omega)]
  rfl
theorem xor_at (l m : List UInt8) (k : Nat) (h : k < l.length) (h' : k < m.length) : bits .xor .u8 (at8 l k) (at8 m k) = (((l[k] ^^^ m[k]).toNat : Nat) : Int) := by
  have h1 := l[k].toNat_lt
  have h2 := m[k].toNat_lt
  rw [at8_eq l k h, at8_eq m k h', u8_xor_nat _ _ (by omega) (by omega), UInt8.toNat_xor]
theorem one8 (W : World) (x : UInt8) : BS (W.alloc (.cells #[.int .u8 (x.toNat : Int)] 5)) (W.heap.size + 1) (some ⟨W.heap.size, 0, none⟩) [x] := fun _ => by
  refine ⟨W.heap.size, 0, rfl, by omega, fun k hk => ?_⟩
  have hk0 : k = 0 := by simpa using hk
  subst hk0
  rw [Nat.zero_add, World.cell?_alloc_mark, at8_eq _ 0 (by simp)]
  rfl

set_option maxHeartbeats 4000000 in
theorem adds_main (A A2 : Option Addr) (m1 m2 c c2 n : Nat) (l l2 : List UInt8) (w : World) (hT : Tab w) (HL : Hid (m1 = l.length)) (HL2 : Hid (m2 = l2.length)) (hb : BS w w.heap.size A l) (hb2 : BS w w.heap.size A2 l2) (hmc : m1 ≤ c) (hmc2 : m2 ≤ c2)
    (hn : n ≤ 200) (hmin : (m1 = n ∧ n ≤ m2) ∨ (m2 = n ∧ n < m1)) (h19 : m1 ≤ 9223372036854775807) (h29 : m2 ≤ 9223372036854775807) :
    Calls Tryd.prog 7 #[.slice A m1 c, .slice A2 m2 c2] w fun e w' => e = .returned (.bool true) ∧ Below w.heap.size w w' := by
  have hn1 : n ≤ m1 := by omega
  have hn2 : n ≤ m2 := by omega
  rcases hmin with ⟨rfl, hle⟩ | ⟨rfl, hlt⟩
  · go_enter Tryd.func7, Tryd.ntmps7
    go_wp2_with fail
    refine (head_any _ hT).mono ?_
    rintro e w1 ⟨rfl, hb1⟩
    have hsA : w.heap.size ≤ w1.heap.size := hb1.size
    go_wp2_with fail
    go_loopw [6, 7] (fun x i wr => ∃ k : Nat, k ≤ m1 ∧ i = .int .i64 k ∧ Below w.heap.size w wr ∧ w1.heap.size ≤ wr.heap.size ∧ Own8 wr w1.heap.size 5 x (over l l2 k)) (fun _ i _ => m1 - (intOf i).toNat)
    case atStart => exact ⟨0, Nat.zero_le _, rfl, hb1.alloc hb1.size _, by simp, Own8.lit w1 (0, 0) rfl⟩
    case round =>
      obtain ⟨k, hk, rfl, hbel, hsz, hown⟩ := hrel
      by_cases hlt : k < m1
      · have hkl : k < l.length := by rw [← HL.out]; omega
        have hkl2 : k < l2.length := by rw [← HL2.out]; omega
        obtain ⟨b, o, rfl, hbw, hc⟩ := hb (by omega)
        obtain ⟨b2, o2, rfl, hbw2, hc2⟩ := hb2 (by omega)
        have hc0 := Lib.hid (hc k hkl)
        have hc20 := Lib.hid (hc2 k hkl2)
        have hcell : wr.cell? ⟨b, o + k, none⟩ = some (.int .u8 (at8 l k)) := (hbel.cell (p := ⟨b, o + k, none⟩) hbw).trans (hc k hkl)
        have hcell2 : wr.cell? ⟨b2, o2 + k, none⟩ = some (.int .u8 (at8 l2 k)) := (hbel.cell (p := ⟨b2, o2 + k, none⟩) hbw2).trans (hc2 k hkl2)
        have hx := xor_at l l2 k hkl hkl2
        have HOV := Lib.hid (over_succ l l2 k hkl hkl2)
        have hol : (over l l2 k).length ≤ 200 := by rw [over_len l l2 k (by omega) (by omega)]; omega
        clear hc hc2 hb hb2
        generalize l[k] ^^^ l2[k] = y at hx HOV
        have hk1 : (k : Int) < (m1 : Int) := by omega
        have hk2 : (k : Int) < (m2 : Int) := by omega
        have hk0 : (0 : Int) ≤ (k : Int) := by omega
        have hbelA : Below w.heap.size w (wr.alloc (.cells #[.int .u8 (y.toNat : Int)] 5)).drew := (hbel.alloc (Nat.le_trans hsA hsz) _).drew
        have hownA : Own8 (wr.alloc (.cells #[.int .u8 (y.toNat : Int)] 5)).drew w1.heap.size 5 u6 (over l l2 k) := hown.below ((Below.refl _ _).alloc (Nat.le_refl _) _).drew
        have hszA : w1.heap.size ≤ (wr.alloc (.cells #[.int .u8 (y.toNat : Int)] 5)).drew.heap.size := by simp; omega
        go_wp2_with fail
        go_region_held3 (fun w' => w'.cell? ⟨b, o + k, none⟩ = some (.int .u8 (at8 l k)) ∧ w'.cell? ⟨b2, o2 + k, none⟩ = some (.int .u8 (at8 l2 k)))
          (first | go_keep | exact ⟨(hbel2.cell (p := ⟨b, o + k, none⟩) hbw).trans hc0.out, (hbel2.cell (p := ⟨b2, o2 + k, none⟩) hbw2).trans hc20.out⟩)
          ((refine step_append8 _ (by rfl) _ _ (by rfl) w1.heap.size _ (over l l2 k) (by rfl) hownA _ 1 1 (wr.heap.size + 1) [y] (by rfl) rfl (one8 wr y) (by simp only [List.length_singleton]; omega) hszA ?_; intro v2 w2 hown2 hg2 hat2; have hbel2 : Below w.heap.size w w2 := hownA.grow hsA hbelA hszA hg2; have hs2 : w1.heap.size ≤ w2.heap.size := Nat.le_trans hszA hg2.size))
        rw [← HOV.out] at hown2
        clear hg2 hat2 hownA hbelA hszA
        go_wp2
        go_roundw
        case rel => exact ⟨k + 1, by omega, by go_num, hbel2, hs2, hown2⟩
        case measure => simp [intOf]; omega
      · have hk2 : m1 = k := by omega
        subst hk2
        obtain ⟨A3, c3, hv3, _, _, hbs3, _⟩ := hown.form
        have hol := over_len l l2 m1 (by rw [← HL.out]; omega) (by rw [← HL2.out]; omega)
        rw [hol] at hv3
        have hTr := hT.below' hbel
        obtain ⟨hto, hbk⟩ := (hb.below hbel).to_ m1 c m1 HL.out (by omega) hmc
        obtain ⟨hto2, hbk2⟩ := (hb2.below hbel).to_ m2 c2 m1 HL2.out (by omega) hmc2
        have hmk := run_make8 m1 (by omega)
        have hK1 : Hid (∀ W, Below wr.heap.size wr W → Calls Tryd.prog 20 #[.slice A3 m1 c3] W fun e w' => e = .returned (.int .u32 (crcN (over l l2 m1) : Nat)) ∧ W = w') := fun W h =>
          sum_any A3 m1 c3 _ wr.heap.size W hol.symm (by rw [hol]; omega) (hTr.below' h) (hbs3.below h)
        have hK2 : Hid (∀ W, Below wr.heap.size wr W → Calls Tryd.prog 20 #[.slice A m1 c] W fun e w' => e = .returned (.int .u32 (crcN (l.take m1) : Nat)) ∧ W = w') := fun W h =>
          sum_any A m1 c _ w.heap.size W (by rw [List.length_take, ← HL.out]; omega) (by rw [List.length_take]; omega) (hTr.below' h) (hbk.below (h.mono hbel.size))
        have hK3 : Hid (∀ W, Below wr.heap.size wr W → Calls Tryd.prog 20 #[.slice A2 m1 c2] W fun e w' => e = .returned (.int .u32 (crcN (l2.take m1) : Nat)) ∧ W = w') := fun W h =>
          sum_any A2 m1 c2 _ w.heap.size W (by rw [List.length_take, ← HL2.out]; omega) (by rw [List.length_take]; omega) (hTr.below' h) (hbk2.below (h.mono hbel.size))
        have hbM : Below wr.heap.size wr (wr.alloc (.cells (madeCells #[.int .u8 0] m1) 5)).drew := ((Below.refl _ _).alloc (Nat.le_refl _) _).drew
        have hK4 : Hid (Calls Tryd.prog 20 #[.slice (some ⟨wr.heap.size, 0, none⟩) m1 m1] (wr.alloc (.cells (madeCells #[.int .u8 0] m1) 5)).drew fun e w' => e = .returned (.int .u32 (crcN (List.replicate m1 0) : Nat)) ∧ (wr.alloc (.cells (madeCells #[.int .u8 0] m1) 5)).drew = w') :=
          sum_any _ m1 m1 _ (wr.heap.size + 1) _ (by rw [List.length_replicate]) (by rw [List.length_replicate]; omega) (hTr.below' hbM) (made8 wr m1)
        have hx1 := xor32 (crcN (l.take m1)) (crcN (l2.take m1)) (crcN_lt _) (crcN_lt _)
        have hx2 := xor32 (crcN (l.take m1) ^^^ crcN (l2.take m1)) (crcN (List.replicate m1 0)) (xor_lt32 (crcN_lt _) (crcN_lt _)) (crcN_lt _)
        have hadd := crc_adds (l.take m1) (l2.take m1) (by rw [List.length_take, List.length_take, ← HL.out, ← HL2.out]; omega)
        rw [show (l.take m1).length = m1 by rw [List.length_take, ← HL.out]; omega] at hadd
        have HA : Hid (crcN (over l l2 m1) = (crcN (l.take m1) ^^^ crcN (l2.take m1)) ^^^ crcN (List.replicate m1 0)) := hadd
        have hbw := Lib.hid hbel
        rw [hv3]
        clear hT hb hb2 hown hbs3 hbk hbk2 hadd hol hv3 hTr
        rw [← HA.out] at hx2
        generalize crcN (over l l2 m1) = q1 at hK1 hx2
        generalize crcN (l.take m1) ^^^ crcN (l2.take m1) = q5 at hx1 hx2
        generalize crcN (l.take m1) = q2 at hK2 hx1
        generalize crcN (l2.take m1) = q3 at hK3 hx1
        generalize crcN (List.replicate m1 0) = q4 at hK4 hx2
        clear HA
        go_wp2_with fail
        go_region_held3 (fun W => Below wr.heap.size wr W)
          (first | exact (Below.refl _ _).drew | exact hbM | assumption)
          (first
            | (go_at_call 20; (with_reducible refine (hK1.out _ ?_).mono ?_); (first | exact (Below.refl _ _).drew | exact hbM | assumption); rintro e w' ⟨rfl, rfl⟩)
            | (go_at_call 20; (with_reducible refine (hK2.out _ ?_).mono ?_); (first | exact (Below.refl _ _).drew | exact hbM | assumption); rintro e w' ⟨rfl, rfl⟩)
            | (go_at_call 20; (with_reducible refine (hK3.out _ ?_).mono ?_); (first | exact (Below.refl _ _).drew | exact hbM | assumption); rintro e w' ⟨rfl, rfl⟩)
            | (go_at_call 20; (with_reducible refine hK4.out.mono ?_); rintro e w' ⟨rfl, rfl⟩))
        all_goals
          go_wp2
          go_ret
          exact ⟨rfl, hbel.trans (hbM.mono hbel.size)⟩
  · go_enter Tryd.func7, Tryd.ntmps7
    go_wp2_with fail
    refine (head_any _ hT).mono ?_
    rintro e w1 ⟨rfl, hb1⟩
    have hsA : w.heap.size ≤ w1.heap.size := hb1.size
    go_wp2_with fail
    go_loopw [6, 7] (fun x i wr => ∃ k : Nat, k ≤ m2 ∧ i = .int .i64 k ∧ Below w.heap.size w wr ∧ w1.heap.size ≤ wr.heap.size ∧ Own8 wr w1.heap.size 5 x (over l l2 k)) (fun _ i _ => m2 - (intOf i).toNat)
    case atStart => exact ⟨0, Nat.zero_le _, rfl, hb1.alloc hb1.size _, by simp, Own8.lit w1 (0, 0) rfl⟩
    case round =>
      obtain ⟨k, hk, rfl, hbel, hsz, hown⟩ := hrel
      by_cases hlt : k < m2
      · have hkl : k < l.length := by rw [← HL.out]; omega
        have hkl2 : k < l2.length := by rw [← HL2.out]; omega
        obtain ⟨b, o, rfl, hbw, hc⟩ := hb (by omega)
        obtain ⟨b2, o2, rfl, hbw2, hc2⟩ := hb2 (by omega)
        have hc0 := Lib.hid (hc k hkl)
        have hc20 := Lib.hid (hc2 k hkl2)
        have hcell : wr.cell? ⟨b, o + k, none⟩ = some (.int .u8 (at8 l k)) := (hbel.cell (p := ⟨b, o + k, none⟩) hbw).trans (hc k hkl)
        have hcell2 : wr.cell? ⟨b2, o2 + k, none⟩ = some (.int .u8 (at8 l2 k)) := (hbel.cell (p := ⟨b2, o2 + k, none⟩) hbw2).trans (hc2 k hkl2)
        have hx := xor_at l l2 k hkl hkl2
        have HOV := Lib.hid (over_succ l l2 k hkl hkl2)
        have hol : (over l l2 k).length ≤ 200 := by rw [over_len l l2 k (by omega) (by omega)]; omega
        clear hc hc2 hb hb2
        generalize l[k] ^^^ l2[k] = y at hx HOV
        have hk1 : (k : Int) < (m1 : Int) := by omega
        have hk2 : (k : Int) < (m2 : Int) := by omega
        have hk0 : (0 : Int) ≤ (k : Int) := by omega
        have hbelA : Below w.heap.size w (wr.alloc (.cells #[.int .u8 (y.toNat : Int)] 5)).drew := (hbel.alloc (Nat.le_trans hsA hsz) _).drew
        have hownA : Own8 (wr.alloc (.cells #[.int .u8 (y.toNat : Int)] 5)).drew w1.heap.size 5 u6 (over l l2 k) := hown.below ((Below.refl _ _).alloc (Nat.le_refl _) _).drew
        have hszA : w1.heap.size ≤ (wr.alloc (.cells #[.int .u8 (y.toNat : Int)] 5)).drew.heap.size := by simp; omega
        go_wp2_with fail
        go_region_held3 (fun w' => w'.cell? ⟨b, o + k, none⟩ = some (.int .u8 (at8 l k)) ∧ w'.cell? ⟨b2, o2 + k, none⟩ = some (.int .u8 (at8 l2 k)))
          (first | go_keep | exact ⟨(hbel2.cell (p := ⟨b, o + k, none⟩) hbw).trans hc0.out, (hbel2.cell (p := ⟨b2, o2 + k, none⟩) hbw2).trans hc20.out⟩)
          ((refine step_append8 _ (by rfl) _ _ (by rfl) w1.heap.size _ (over l l2 k) (by rfl) hownA _ 1 1 (wr.heap.size + 1) [y] (by rfl) rfl (one8 wr y) (by simp only [List.length_singleton]; omega) hszA ?_; intro v2 w2 hown2 hg2 hat2; have hbel2 : Below w.heap.size w w2 := hownA.grow hsA hbelA hszA hg2; have hs2 : w1.heap.size ≤ w2.heap.size := Nat.le_trans hszA hg2.size))
        rw [← HOV.out] at hown2
        clear hg2 hat2 hownA hbelA hszA
        go_wp2
        go_roundw
        case rel => exact ⟨k + 1, by omega, by go_num, hbel2, hs2, hown2⟩
        case measure => simp [intOf]; omega
      · have hk2 : m2 = k := by omega
        subst hk2
        obtain ⟨A3, c3, hv3, _, _, hbs3, _⟩ := hown.form
        have hol := over_len l l2 m2 (by rw [← HL.out]; omega) (by rw [← HL2.out]; omega)
        rw [hol] at hv3
        have hTr := hT.below' hbel
        obtain ⟨hto, hbk⟩ := (hb.below hbel).to_ m1 c m2 HL.out (by omega) hmc
        obtain ⟨hto2, hbk2⟩ := (hb2.below hbel).to_ m2 c2 m2 HL2.out (by omega) hmc2
        have hmk := run_make8 m2 (by omega)
        have hK1 : Hid (∀ W, Below wr.heap.size wr W → Calls Tryd.prog 20 #[.slice A3 m2 c3] W fun e w' => e = .returned (.int .u32 (crcN (over l l2 m2) : Nat)) ∧ W = w') := fun W h =>
          sum_any A3 m2 c3 _ wr.heap.size W hol.symm (by rw [hol]; omega) (hTr.below' h) (hbs3.below h)
        have hK2 : Hid (∀ W, Below wr.heap.size wr W → Calls Tryd.prog 20 #[.slice A m2 c] W fun e w' => e = .returned (.int .u32 (crcN (l.take m2) : Nat)) ∧ W = w') := fun W h =>
          sum_any A m2 c _ w.heap.size W (by rw [List.length_take, ← HL.out]; omega) (by rw [List.length_take]; omega) (hTr.below' h) (hbk.below (h.mono hbel.size))
        have hK3 : Hid (∀ W, Below wr.heap.size wr W → Calls Tryd.prog 20 #[.slice A2 m2 c2] W fun e w' => e = .returned (.int .u32 (crcN (l2.take m2) : Nat)) ∧ W = w') := fun W h =>
          sum_any A2 m2 c2 _ w.heap.size W (by rw [List.length_take, ← HL2.out]; omega) (by rw [List.length_take]; omega) (hTr.below' h) (hbk2.below (h.mono hbel.size))
        have hbM : Below wr.heap.size wr (wr.alloc (.cells (madeCells #[.int .u8 0] m2) 5)).drew := ((Below.refl _ _).alloc (Nat.le_refl _) _).drew
        have hK4 : Hid (Calls Tryd.prog 20 #[.slice (some ⟨wr.heap.size, 0, none⟩) m2 m2] (wr.alloc (.cells (madeCells #[.int .u8 0] m2) 5)).drew fun e w' => e = .returned (.int .u32 (crcN (List.replicate m2 0) : Nat)) ∧ (wr.alloc (.cells (madeCells #[.int .u8 0] m2) 5)).drew = w') :=
          sum_any _ m2 m2 _ (wr.heap.size + 1) _ (by rw [List.length_replicate]) (by rw [List.length_replicate]; omega) (hTr.below' hbM) (made8 wr m2)
        have hx1 := xor32 (crcN (l.take m2)) (crcN (l2.take m2)) (crcN_lt _) (crcN_lt _)
        have hx2 := xor32 (crcN (l.take m2) ^^^ crcN (l2.take m2)) (crcN (List.replicate m2 0)) (xor_lt32 (crcN_lt _) (crcN_lt _)) (crcN_lt _)
        have hadd := crc_adds (l.take m2) (l2.take m2) (by rw [List.length_take, List.length_take, ← HL.out, ← HL2.out]; omega)
        rw [show (l.take m2).length = m2 by rw [List.length_take, ← HL.out]; omega] at hadd
        have HA : Hid (crcN (over l l2 m2) = (crcN (l.take m2) ^^^ crcN (l2.take m2)) ^^^ crcN (List.replicate m2 0)) := hadd
        have hbw := Lib.hid hbel
        rw [hv3]
        clear hT hb hb2 hown hbs3 hbk hbk2 hadd hol hv3 hTr
        rw [← HA.out] at hx2
        generalize crcN (over l l2 m2) = q1 at hK1 hx2
        generalize crcN (l.take m2) ^^^ crcN (l2.take m2) = q5 at hx1 hx2
        generalize crcN (l.take m2) = q2 at hK2 hx1
        generalize crcN (l2.take m2) = q3 at hK3 hx1
        generalize crcN (List.replicate m2 0) = q4 at hK4 hx2
        clear HA
        go_wp2_with fail
        go_region_held3 (fun W => Below wr.heap.size wr W)
          (first | exact (Below.refl _ _).drew | exact hbM | assumption)
          (first
            | (go_at_call 20; (with_reducible refine (hK1.out _ ?_).mono ?_); (first | exact (Below.refl _ _).drew | exact hbM | assumption); rintro e w' ⟨rfl, rfl⟩)
            | (go_at_call 20; (with_reducible refine (hK2.out _ ?_).mono ?_); (first | exact (Below.refl _ _).drew | exact hbM | assumption); rintro e w' ⟨rfl, rfl⟩)
            | (go_at_call 20; (with_reducible refine (hK3.out _ ?_).mono ?_); (first | exact (Below.refl _ _).drew | exact hbM | assumption); rintro e w' ⟨rfl, rfl⟩)
            | (go_at_call 20; (with_reducible refine hK4.out.mono ?_); rintro e w' ⟨rfl, rfl⟩))
        all_goals
          go_wp2
          go_ret
          exact ⟨rfl, hbel.trans (hbM.mono hbel.size)⟩

set_option maxHeartbeats 1000000 in
theorem adds_walk (A A2 : Option Addr) (m1 m2 c c2 : Nat) (l l2 : List UInt8) (w : World) (hT : Tab w) (HL : Hid (m1 = l.length)) (HL2 : Hid (m2 = l2.length)) (hb : BS w w.heap.size A l) (hb2 : BS w w.heap.size A2 l2) (hmc : m1 ≤ c) (hmc2 : m2 ≤ c2) (h19 : m1 ≤ 9223372036854775807) (h29 : m2 ≤ 9223372036854775807) :
    Calls Tryd.prog 7 #[.slice A m1 c, .slice A2 m2 c2] w fun e w' => e = .returned (.bool true) ∧ Below w.heap.size w w' := by
  by_cases hle : m1 ≤ m2
  · by_cases hn : m1 ≤ 200
    · exact adds_main A A2 m1 m2 c c2 m1 l l2 w hT HL HL2 hb hb2 hmc hmc2 hn (.inl ⟨rfl, hle⟩) h19 h29
    · have hd : (200 : Int) < (m1 : Int) := by omega
      go_enter Tryd.func7, Tryd.ntmps7
      go_wp2_with (go_at_call 9; (with_reducible refine (head_any _ hT).mono ?_); rintro e w1 ⟨rfl, hb1⟩)
      go_ret
      exact ⟨rfl, hb1⟩
  · by_cases hn : m2 ≤ 200
    · exact adds_main A A2 m1 m2 c c2 m2 l l2 w hT HL HL2 hb hb2 hmc hmc2 hn (.inr ⟨rfl, by omega⟩) h19 h29
    · have hd : (200 : Int) < (m2 : Int) := by omega
      go_enter Tryd.func7, Tryd.ntmps7
      go_wp2_with (go_at_call 9; (with_reducible refine (head_any _ hT).mono ?_); rintro e w1 ⟨rfl, hb1⟩)
      go_ret
      exact ⟨rfl, hb1⟩
end Go.Proofs.YthnghgnoonfgiaaDoor
