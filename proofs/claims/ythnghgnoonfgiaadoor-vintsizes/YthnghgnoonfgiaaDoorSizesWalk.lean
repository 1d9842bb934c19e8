/- VintSizes: it answers true; nothing that was there is written. -/
import Derived.Test.YthnghgnoonfgiaaDoorHeadWalk
import Derived.Test.YthnghgnoonfgiaaDoorReadWalk
import Derived.WalkKit
import Derived.WalkSpells
import Derived.Outline
import Derived.Lib.Hide
namespace Go.Proofs.YthnghgnoonfgiaaDoor
open Go.RowKit
set_option maxRecDepth 100000

def strAt (ss : List ByteArray) (k : Nat) : ByteArray := ss[k]?.getD ByteArray.empty
/-- A slice of strings that came in. -/
def SL (w : World) (B : Nat) (A : Option Addr) (ss : List ByteArray) : Prop :=
  0 < ss.length → ∃ b o, A = some ⟨b, o, none⟩ ∧ b < B ∧ ∀ k, k < ss.length → w.cell? ⟨b, o + k, none⟩ = some (.string (strAt ss k))
theorem SL.below {w w' : World} {B : Nat} {A : Option Addr} {ss : List ByteArray} (h : SL w B A ss) (hb : Below B w w') : SL w' B A ss := fun hn => by
  obtain ⟨b, o, e, hlt, hc⟩ := h hn
  exact ⟨b, o, e, hlt, fun k hk => (hb.cell (p := ⟨b, o + k, none⟩) hlt).trans (hc k hk)⟩
/-- Texts laid one behind the other. -/
def lay (ss : List ByteArray) : List UInt8 := (ss.map fun s => enc s.size ++ s.data.toList).flatten
theorem lay_snoc (ss : List ByteArray) (k : Nat) (h : k < ss.length) : lay (ss.take (k + 1)) = lay (ss.take k) ++ (enc (strAt ss k).size ++ (strAt ss k).data.toList) := by
  unfold lay strAt
  rw [List.take_succ_eq_append_getElem h, List.map_append, List.flatten_append, List.getElem?_eq_getElem h]
  simp
theorem lay_drop (ss : List ByteArray) (k : Nat) (h : k < ss.length) : lay (ss.drop k) = enc (strAt ss k).size ++ ((strAt ss k).data.toList ++ lay (ss.drop (k + 1))) := by
  unfold lay strAt
  rw [List.drop_eq_getElem_cons h, List.map_cons, List.flatten_cons, List.getElem?_eq_getElem h, List.append_assoc]
  rfl
theorem lay_len (ss : List ByteArray) (k : Nat) (hk : k ≤ ss.length) (h : ∀ j, j < k → (strAt ss j).size ≤ 200) : (lay (ss.take k)).length ≤ 210 * k := by
  induction k with
  | zero => simp [lay]
  | succ k ih =>
    have := ih (by omega) (fun j hj => h j (by omega))
    have h1 := h k (by omega)
    have h2 := glen_le10 (strAt ss k).size (by omega)
    have h3 : (strAt ss k).data.toList.length = (strAt ss k).size := by simp
    unfold glen at h2
    rw [lay_snoc ss k (by omega), List.length_append, List.length_append, h3]
    omega

theorem str_eta (s : ByteArray) : (⟨s.data.toList.toArray⟩ : ByteArray) = s := by cases s; simp
/-- The next of the texts is read. -/
theorem rtext_lay (ss : List ByteArray) (k R : Nat) (w : World) (hk : k < ss.length) (h : Rd w R (lay (ss.drop k)) 0) (hn : (lay (ss.drop k)).length ≤ 1000000) (hs : (strAt ss k).size ≤ 200) :
    Calls Tryd.prog 15 #[.pointer (some ⟨R, 0, none⟩), .int .i64 ((strAt ss k).size : Nat)] w fun e w' => e = .returned (.string (strAt ss k)) ∧ Moved w w' R (lay (ss.drop (k + 1))) 0 := by
  have hl := lay_drop ss k hk
  have hg : getN (lay (ss.drop k)) = ((strAt ss k).size, glen (strAt ss k).size) := by rw [hl]; exact getN_enc _ (by omega) _
  have hlen : (strAt ss k).data.toList.length = (strAt ss k).size := by simp
  have hd : (lay (ss.drop k)).drop (glen (strAt ss k).size) = (strAt ss k).data.toList ++ lay (ss.drop (k + 1)) := by rw [hl]; exact List.drop_left
  have hgl : (lay (ss.drop k)).length - glen (strAt ss k).size = (strAt ss k).size + (lay (ss.drop (k + 1))).length := by
    have := congrArg List.length hd
    rw [List.length_drop, List.length_append, hlen] at this
    exact this
  have c := rtext_ok R (lay (ss.drop k)) ((strAt ss k).size : Nat) (strAt ss k).size (glen (strAt ss k).size) w h hn hg (glen_pos _) (Int.le_refl _) (by omega) (by omega)
  rw [hd] at c
  have e1 : ((strAt ss k).data.toList ++ lay (ss.drop (k + 1))).take (strAt ss k).size = (strAt ss k).data.toList := by rw [← hlen]; exact List.take_left
  have e2 : ((strAt ss k).data.toList ++ lay (ss.drop (k + 1))).drop (strAt ss k).size = lay (ss.drop (k + 1)) := by rw [← hlen]; exact List.drop_left
  rw [e1, e2, str_eta] at c
  exact c

set_option maxHeartbeats 4000000 in
theorem sizes_main (x y n c : Nat) (A : Option Addr) (ss : List ByteArray) (w : World) (hT : Tab w) (HL : Hid (n = ss.length)) (hb : SL w w.heap.size A ss) (hn : n ≤ 20) (hx : x < 18446744073709551616) (hy : y < 18446744073709551616) (hxy : x ≤ y) (a b : Nat) (hab : (a = x ∧ b = y ∧ ¬ (b : Int) < (a : Int)) ∨ (a = y ∧ b = x ∧ (b : Int) < (a : Int))) :
    Calls Tryd.prog 8 #[.int .u64 a, .int .u64 b, .slice A n c] w fun e w' => e = .returned (.bool true) ∧ Below w.heap.size w w' := by
  have hgl : decide ((enc y).length < (enc x).length) = false := decide_eq_false (by have := glen_mono 10 x y (lt_128_10 y hy) hxy; unfold glen at this; omega)
  rcases hab with ⟨rfl, rfl, hab⟩ | ⟨rfl, rfl, hab⟩
  all_goals
    go_enter Tryd.func8, Tryd.ntmps8
    go_wp2_with fail
    refine (head_any _ hT).mono ?_
    rintro e w1 ⟨rfl, hb1⟩
    go_wp2_with fail
    refine (put_any (.slice none 0 0) [] w1.heap.size _ (by assumption) w1 (Own8.nil _ _ _) (Nat.le_refl _) (by decide)).mono ?_
    rintro e w2 ⟨v2, rfl, hown2, hg2, _⟩
    have hb2 : Below w1.heap.size w1 w2 := below_of_grown hg2 (fun k hk => by simp [Value.ownBlock] at hk)
    obtain ⟨A2, c2, rfl, _, _, _, _⟩ := hown2.form
    clear hown2 hg2
    rw [List.nil_append]
    go_wp2_with fail
    refine (put_any (.slice none 0 0) [] w2.heap.size _ (by assumption) w2 (Own8.nil _ _ _) (Nat.le_refl _) (by decide)).mono ?_
    rintro e w3 ⟨v3, rfl, hown3, hg3, _⟩
    have hb3 : Below w2.heap.size w2 w3 := below_of_grown hg3 (fun k hk => by simp [Value.ownBlock] at hk)
    obtain ⟨A3, c3, rfl, _, _, _, _⟩ := hown3.form
    clear hown3 hg3
    rw [List.nil_append]
    have hbW : Below w.heap.size w w3 := hb1.trans ((hb2.mono hb1.size).trans (hb3.mono (Nat.le_trans hb1.size hb2.size)))
    clear hT
    go_wp2_with fail
  all_goals
    go_loopw [7, 33] (fun v i wr => ∃ k : Nat, k ≤ n ∧ i = .int .i64 k ∧ Below w.heap.size w wr ∧ w3.heap.size ≤ wr.heap.size ∧ Own8 wr w3.heap.size 5 v (lay (ss.take k)) ∧ ∀ j, j < k → (strAt ss j).size ≤ 200) (fun _ i _ => n - (intOf i).toNat)
    case atStart => exact ⟨0, Nat.zero_le _, rfl, hbW.alloc hbW.size _, by simp, Own8.lit w3 (0, 0) rfl, fun j h => absurd h (by omega)⟩
    case round =>
      obtain ⟨k, hk, rfl, hbel, hsz, hown, hall⟩ := hrel
      have hws : w.heap.size ≤ w3.heap.size := hbW.size
      have hlay := lay_len ss k (by rw [← HL.out]; exact hk) hall
      have HALL := Lib.hid hall
      clear hall
      by_cases hlt : k < n
      · have hkl : k < ss.length := by rw [← HL.out]; exact hlt
        obtain ⟨b', o, rfl, hbw, hc⟩ := hb (by omega)
        have hcell : wr.cell? ⟨b', o + k, none⟩ = some (.string (strAt ss k)) := (hbel.cell (p := ⟨b', o + k, none⟩) hbw).trans (hc k hkl)
        clear hc
        by_cases hs : (strAt ss k).size ≤ 200
        · have HLS := Lib.hid (lay_snoc ss k hkl)
          have HA2 : Hid (∀ j, j < k + 1 → (strAt ss j).size ≤ 200) := fun j hj => by
            rcases Nat.lt_or_ge j k with h | h
            · exact HALL.out j h
            · rw [show j = k by omega]; exact hs
          go_wp2_with fail
          refine (text_any _ (lay (ss.take k)) w3.heap.size (strAt ss k) (by omega) wr hown hsz (by omega)).mono ?_
          rintro e w4 ⟨v4, rfl, hown4, hg4, _⟩
          have hbel4 := hown.grow hws hbel hsz hg4
          have hs4 : w3.heap.size ≤ w4.heap.size := Nat.le_trans hsz hg4.size
          rw [← HLS.out] at hown4
          clear hown hg4
          go_wp2_with fail
          go_roundw
          case rel => exact ⟨k + 1, by omega, by go_num, hbel4, hs4, hown4, HA2.out⟩
          case measure => simp [intOf]; omega
        · have hs' : (200 : Int) < ((strAt ss k).size : Int) := by omega
          go_wp2_with fail
          go_ret
          exact ⟨rfl, hbel⟩
      · have hk2 : n = k := by omega
        subst hk2
        have htk : ss.take n = ss := List.take_of_length_le (by rw [← HL.out]; exact Nat.le_refl _)
        rw [htk] at hown hlay
        obtain ⟨A5, c5, hv5, _, _, hbs5, _⟩ := hown.form
        rw [hv5]
        clear hv5 htk
        go_wp2_with fail
        refine (read_any A5 _ c5 (lay ss) wr rfl (by omega) hbs5).mono ?_
        rintro e w6 ⟨R, rfl, hrd, hb6, hR1, hR2⟩
        have hwR : w.heap.size ≤ R := by omega
        have hbel6 : Below w.heap.size w w6 := hbel.trans (hb6.mono (by omega))
        clear hown hbs5
        go_wp2_with fail
        go_loopw [48] (fun i wq => ∃ k : Nat, k ≤ n ∧ i = .int .i64 k ∧ Moved w6 wq R (lay (ss.drop k)) 0) (fun i _ => n - (intOf i).toNat)
        case atStart => exact ⟨0, Nat.zero_le _, rfl, hrd, Below.refl _ _, rfl⟩
        case round =>
          obtain ⟨k, hk, rfl, hmv⟩ := hrel
          have hbelq : Below w.heap.size w wr := hbel6.trans (hmv.2.1.mono hwR)
          by_cases hlt : k < n
          · have hkl : k < ss.length := by rw [← HL.out]; exact hlt
            obtain ⟨b', o, rfl, hbw, hc⟩ := hb (by omega)
            have hcell : wr.cell? ⟨b', o + k, none⟩ = some (.string (strAt ss k)) := (hbelq.cell (p := ⟨b', o + k, none⟩) hbw).trans (hc k hkl)
            have hlen : (lay (ss.drop k)).length ≤ (lay ss).length := by
              have : lay ss = lay (ss.take k) ++ lay (ss.drop k) := by unfold lay; rw [← List.flatten_append, ← List.map_append, List.take_append_drop]
              rw [this, List.length_append]; omega
            have hct := Lib.hid (rtext_lay ss k R wr hkl hmv.1 (by omega) (HALL.out k hlt))
            have hsz200 := HALL.out k hlt
            clear hc hlen
            go_wp2_with fail
            refine hct.out.mono ?_
            rintro e w7 ⟨rfl, hmv7⟩
            go_wp2_with fail
            go_roundw
            case rel => exact ⟨k + 1, by omega, by go_num, hmv.trans hmv7⟩
            case measure => simp [intOf]; omega
          · have hk2 : n = k := by omega
            subst hk2
            have hdn : lay (ss.drop n) = [] := by rw [List.drop_of_length_le (by rw [← HL.out]; exact Nat.le_refl _)]; rfl
            have hrd2 := hmv.1
            rw [hdn] at hrd2
            clear hdn
            go_wp2_with fail
            refine (end_some R [] wr hrd2).mono ?_
            rw [if_pos (by rfl)]
            rintro e w7 ⟨rfl, rfl⟩
            go_wp2_with fail
            go_ret
            exact ⟨rfl, hbelq⟩

set_option maxHeartbeats 1000000 in
theorem sizes_walk (a b n c : Nat) (A : Option Addr) (ss : List ByteArray) (w : World) (hT : Tab w) (HL : Hid (n = ss.length)) (hb : SL w w.heap.size A ss) (hn9 : n ≤ 9223372036854775807) (ha : a < 18446744073709551616) (hb' : b < 18446744073709551616) :
    Calls Tryd.prog 8 #[.int .u64 a, .int .u64 b, .slice A n c] w fun e w' => e = .returned (.bool true) ∧ Below w.heap.size w w' := by
  by_cases hn : n ≤ 20
  · by_cases hab : b < a
    · exact sizes_main b a n c A ss w hT HL hb hn hb' ha (by omega) a b (.inr ⟨rfl, rfl, by omega⟩)
    · exact sizes_main a b n c A ss w hT HL hb hn ha hb' (by omega) a b (.inl ⟨rfl, rfl, by omega⟩)
  · have hn' : (20 : Int) < (n : Int) := by omega
    go_enter Tryd.func8, Tryd.ntmps8
    go_wp2_with (go_at_call 9; (with_reducible refine (head_any _ hT).mono ?_); rintro e w1 ⟨rfl, hb1⟩)
    go_ret
    exact ⟨rfl, hb1⟩
end Go.Proofs.YthnghgnoonfgiaaDoor
