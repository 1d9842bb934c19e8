/- Hits in memory; post.rises, post.Right. -/
import Derived.Test.YtjigaoclngfcaaaPoAp
import Derived.WalkKit
import Derived.WalkSpells
import Derived.LoopTactic
import Derived.Outline
import Derived.Lib.Hide
namespace Go.Proofs.Ytjigaoclngfcaaa
open Go.RowKit
set_option maxRecDepth 100000

/-- The slice at A reads as these hits, all below block B. -/
def HS (w : World) (B : Nat) (A : Option Addr) (hs : List HI) : Prop :=
  0 < hs.length → ∃ b o, A = some ⟨b, o, none⟩ ∧ b < B ∧ ∀ k (hk : k < hs.length), w.cell? ⟨b, o + k * 2, none⟩ = some (.int .i64 hs[k].1) ∧
    ∃ Ak ck, w.cell? ⟨b, o + k * 2 + 1, none⟩ = some (.slice Ak hs[k].2.length ck) ∧ hs[k].2.length ≤ ck ∧ ck ≤ maxLen ∧ CS w B Ak (hs[k].2.map eI)
theorem HS.nil (w : World) (B : Nat) (A : Option Addr) : HS w B A [] := fun h => absurd h (by simp)
theorem HS.below {w w' : World} {B : Nat} {A : Option Addr} {hs : List HI} (h : HS w B A hs) (hb : Below B w w') : HS w' B A hs := fun hn => by
  obtain ⟨b, o, e, hlt, hc⟩ := h hn
  refine ⟨b, o, e, hlt, fun k hk => ?_⟩
  obtain ⟨h1, Ak, ck, h2, h3, h4, h5⟩ := hc k hk
  exact ⟨(hb.cell (p := ⟨b, o + k * 2, none⟩) hlt).trans h1, Ak, ck, (hb.cell (p := ⟨b, o + k * 2 + 1, none⟩) hlt).trans h2, h3, h4, h5.below hb⟩
theorem HS.more {w : World} {B B' : Nat} {A : Option Addr} {hs : List HI} (h : HS w B A hs) (hB : B ≤ B') : HS w B' A hs := fun hn => by
  obtain ⟨b, o, e, hlt, hc⟩ := h hn
  refine ⟨b, o, e, by omega, fun k hk => ?_⟩
  obtain ⟨h1, Ak, ck, h2, h3, h4, h5⟩ := hc k hk
  exact ⟨h1, Ak, ck, h2, h3, h4, h5.more hB⟩
theorem HS.up {w w' : World} {A : Option Addr} {hs : List HI} (h : HS w w.heap.size A hs) (hb : Below w.heap.size w w') : HS w' w'.heap.size A hs := (h.below hb).more hb.size
theorem CS.up' {w w' : World} {A : Option Addr} {xs : List Value} (h : CS w w.heap.size A xs) (hb : Below w.heap.size w w') : CS w' w'.heap.size A xs := (h.below hb).more hb.size
set_option maxHeartbeats 1000000 in
theorem rises_any (A : Option Addr) (n c : Nat) (xs : List Int) (lim : Int) (hn : Hid (n = xs.length)) (hnm : n ≤ 9223372036854775807) (w : World) (B : Nat) (hI : CS w B A (xs.map eI)) :
    Calls Try.prog 43 #[.slice A n c, .int .i64 lim] w fun e w' => e = .returned (.bool (upI (-1) lim xs)) ∧ w = w' := by
  have HCS := Lib.hid hI
  clear hI
  go_enter Try.func43, Try.ntmps43
  go_wp2_with fail
  go_loop [5, 10] (fun s5 i => ∃ (k : Nat) (a : Int), k ≤ n ∧ i = .int .i64 k ∧ s5 = .int .i64 a ∧ Hid (upI (-1) lim xs = upI a lim (xs.drop k))) (fun _ i => n - (intOf i).toNat)
  case atStart => exact ⟨0, -1, Nat.zero_le _, rfl, rfl, rfl⟩
  case round =>
    obtain ⟨k, a, hk, rfl, rfl, HI⟩ := hrel
    by_cases hlt : k < n
    · have hkx : k < xs.length := by rw [← hn.out]; exact hlt
      obtain ⟨b, o, rfl, hb, hc⟩ := HCS.out (by rw [List.length_map]; omega)
      have hcx := hc k _ (eI_at xs k hkx)
      have hd := List.drop_eq_getElem_cons hkx
      obtain ⟨x, hx⟩ : ∃ x, x = xs[k] := ⟨_, rfl⟩
      rw [← hx] at hcx hd
      have HI2 : Hid (upI (-1) lim xs = (decide (a < x) && (decide (x < lim) && upI x lim (xs.drop (k + 1))))) := by show _ = _; rw [HI.out, hd]; rfl
      clear hx hd hc
      by_cases h1 : x ≤ a
      · have HF : Hid (upI (-1) lim xs = false) := by show _ = _; rw [HI2.out, decide_eq_false (by omega)]; rfl
        go_wp2_with fail
        go_ret
        exact ⟨by rw [HF.out]; rfl, rfl⟩
      · by_cases h2 : lim ≤ x
        · have HF : Hid (upI (-1) lim xs = false) := by show _ = _; rw [HI2.out, decide_eq_true (show a < x by omega), decide_eq_false (show ¬ x < lim by omega)]; rfl
          go_wp2_with fail
          go_ret
          exact ⟨by rw [HF.out]; rfl, rfl⟩
        · have HF : Hid (upI (-1) lim xs = upI x lim (xs.drop (k + 1))) := by show _ = _; rw [HI2.out, decide_eq_true (show a < x by omega), decide_eq_true (show x < lim by omega)]; rfl
          go_wp2_with fail
          go_round
          case rel => exact ⟨k + 1, x, by omega, by go_num, rfl, HF⟩
          case measure => simp [intOf]; omega
    · have HF : Hid (upI (-1) lim xs = true) := by
        show _ = _
        rw [HI.out, List.drop_of_length_le (by have := hn.out; omega)]
        rfl
      go_wp2_with fail
      go_ret
      exact ⟨by rw [HF.out]; rfl, rfl⟩
theorem atOk_take (hs : List HI) (k : Nat) (hk : k < hs.length) : (hs.take (k + 1)).all atOk = ((hs.take k).all atOk && atOk hs[k]) := by
  rw [List.take_succ_eq_append_getElem hk, List.all_append]
  simp
theorem atOk_bad (hs : List HI) (k : Nat) (hk : k < hs.length) (h : atOk hs[k] = false) : hs.all atOk = false := by
  rw [List.all_eq_false]
  exact ⟨hs[k], List.getElem_mem hk, by simp [h]⟩
set_option maxHeartbeats 2000000 in
theorem right_any (A : Option Addr) (n c : Nat) (hs : List HI) (hn : Hid (n = hs.length)) (hnm : n ≤ 100000) (w : World) (hI : HS w w.heap.size A hs) :
    Calls Try.prog 17 #[.slice A n c] w fun e w' => e = .returned (.bool (rgt (-1) hs)) ∧ Below w.heap.size w w' := by
  have HCS := Lib.hid hI
  clear hI
  go_enter Try.func17, Try.ntmps17
  go_wp2_with fail
  go_loopw [3, 8] (fun s3 i wr => ∃ (k : Nat) (v : Value), k ≤ n ∧ i = .int .i64 k ∧ v = s3 ∧ Hid (wr.ownsRow w.heap.size 3 1 v k (((hs.map (·.1)).take k).map eI)) ∧ Hid ((hs.take k).all atOk = true) ∧ Hid (Below w.heap.size w wr)) (fun _ i _ => n - (intOf i).toNat)
  case atStart => exact ⟨0, _, Nat.zero_le _, rfl, rfl, by show World.ownsRow _ _ _ _ _ _ _; exact World.ownsRow_nil _ _ _ _, rfl, Below.refl _ _⟩
  case round =>
    obtain ⟨k, v, hk, rfl, rfl, HO, HT, HB⟩ := hrel
    by_cases hlt : k < n
    · have hkx : k < hs.length := by rw [← hn.out]; exact hlt
      obtain ⟨b, o, rfl, hb, hc⟩ := (HCS.out.below HB.out) (by omega)
      obtain ⟨hc1, Ak, ck, hc2, hlk, hmk, hck⟩ := hc k hkx
      obtain ⟨h, hh⟩ : ∃ h, h = hs[k] := ⟨_, rfl⟩
      rw [← hh] at hc1 hc2 hlk hck
      obtain ⟨d, ps⟩ := h
      simp only at hc1 hc2 hlk hck
      obtain ⟨m, hm⟩ : ∃ m, m = ps.length := ⟨_, rfl⟩
      rw [← hm] at hc2 hlk
      have HM := Lib.hid hm
      have HH := Lib.hid hh
      unfold maxLen at hmk
      have HTS := Lib.hid (atOk_take hs k hkx)
      have HBD : Hid (atOk (d, ps) = false → rgt (-1) hs = false) := fun h => by rw [rgt_eq, atOk_bad hs k hkx (by rw [← HH.out]; exact h)]; rfl
      clear hm hh hc
      by_cases h0 : m = 0
      · subst h0
        have HF : Hid (rgt (-1) hs = false) := HBD.out (by unfold atOk; rw [← HM.out]; rfl)
        go_wp2_with fail
        go_ret
        exact ⟨by rw [HF.out]; rfl, HB.out.alloc HB.out.size _⟩
      · have h0I : ((m : Int) == 0) = false := by simp; omega
        have HA1 : Hid (Below w.heap.size w (wr.alloc (.cells #[.int .i64 d, .slice Ak m ck] 37))) := HB.out.alloc HB.out.size _
        have hbA : Below wr.heap.size wr (wr.alloc (.cells #[.int .i64 d, .slice Ak m ck] 37)) := (Below.refl _ _).alloc (Nat.le_refl _) _
        have HCK : Hid (CS (wr.alloc (.cells #[.int .i64 d, .slice Ak m ck] 37)) w.heap.size Ak (ps.map eI)) := hck.below (hbA.mono HB.out.size)
        cases hu : upI (-1) 65536 ps with
        | false =>
          have HF : Hid (rgt (-1) hs = false) := HBD.out (by unfold atOk; rw [← HM.out]; simp only [hu, Bool.and_false])
          have HU := Lib.hid hu
          clear hu
          go_wp2_with fail
          with_reducible refine (rises_any Ak m ck ps 65536 HM (by omega) _ _ HCK.out).mono ?_
          rw [HU.out]
          rintro e w2 ⟨rfl, rfl⟩
          go_wp2_with fail
          go_ret
          exact ⟨by rw [HF.out]; rfl, HA1.out⟩
        | true =>
          have HU := Lib.hid hu
          have HKN : Hid (atOk (d, ps) = true) := by show _ = _; unfold atOk; rw [← HM.out, decide_eq_true (show 0 < m by omega), hu]; rfl
          have HTN : Hid ((hs.take (k + 1)).all atOk = true) := by show _ = _; rw [HTS.out, HT.out, ← HH.out, HKN.out]; rfl
          have HLJ : Hid (((hs.map (·.1)).take k).length = k ∧ ((hs.map (·.1)).take (k + 1)).length = k + 1 ∧ (hs.map (·.1)).take k ++ [d] = (hs.map (·.1)).take (k + 1)) := by
            refine ⟨by rw [List.length_take, List.length_map]; omega, by rw [List.length_take, List.length_map]; omega, ?_⟩
            rw [List.take_succ_eq_append_getElem (by rw [List.length_map]; exact hkx)]
            congr 2
            simp [← HH.out]
          obtain ⟨W1, hW1⟩ : ∃ W, wr.alloc (.cells #[.int .i64 d, .slice Ak m ck] 37) = W := ⟨_, rfl⟩
          rw [hW1] at HA1 hbA HCK
          have HO1 := Lib.hid (own_below HO.out hbA)
          have bA2 : Below W1.heap.size W1 (W1.alloc (.cells #[.int .i64 d] 3)) := (Below.refl _ _).alloc (Nat.le_refl _) _
          have HO2 := Lib.hid (own_below HO1.out bA2)
          have HB2 := Lib.hid (HA1.out.trans (bA2.mono HA1.out.size))
          have HCA : Hid (CS (W1.alloc (.cells #[.int .i64 d] 3)) (W1.heap.size + 1) (some ⟨W1.heap.size, 0, none⟩) (([d] : List Int).map eI)) := fun _ => ⟨W1.heap.size, 0, rfl, by omega, fun q u hu => by
            have z := new_cells W1 #[.int .i64 d] 3 (0, 0) q u hu
            rwa [add_addr] at z⟩
          have hsA : w.heap.size ≤ (W1.alloc (.cells #[.int .i64 d] 3)).heap.size := HB2.out.size
          have hx0 : W1.cell? ⟨wr.heap.size, 0, none⟩ = some (.int .i64 d) := by
            rw [← hW1]
            have z := new_cells wr #[.int .i64 d, .slice Ak m ck] 37 (0, 0) 0 _ rfl
            rwa [add_addr] at z
          have hx1 : W1.cell? ⟨wr.heap.size, 1, none⟩ = some (.slice Ak m ck) := by
            rw [← hW1]
            have z := new_cells wr #[.int .i64 d, .slice Ak m ck] 37 (0, 0) 1 _ rfl
            rwa [add_addr] at z
          clear hu hbA bA2 hck
          go_wp2_with fail
          with_reducible refine (rises_any Ak m ck ps 65536 HM (by omega) _ _ HCK.out).mono ?_
          rw [HU.out]
          rintro e w2 ⟨rfl, rfl⟩
          go_wp2_with (first
            | (at_builtin; refine wpList_appendI _ rfl (.tmp 22) (.tmp 25) rfl w.heap.size v ((hs.map (·.1)).take k) k HLJ.out.1 rfl HO2.out (some ⟨W1.heap.size, 0, none⟩) 1 1 _ [d] ((hs.map (·.1)).take (k + 1)) (k + 1) rfl rfl HCA.out HLJ.out.2.2 HLJ.out.2.1 (by omega) hsA ?_; intro v4 w4 hown4 hg4; have HB4 := Lib.hid (own_grow HO2.out (Nat.le_refl _) HB2.out hsA hg4); have HO4 := Lib.hid hown4))
          exact ⟨⟨k + 1, v4, hlt, by go_num, rfl, HO4, HTN, HB4⟩, by simp [intOf]; omega⟩
    · obtain rfl : k = n := by omega
      have HO' := HO.out
      rw [List.take_of_length_le (show (hs.map (·.1)).length ≤ k by rw [List.length_map]; have := hn.out; omega)] at HO'
      obtain ⟨A2, c2, rfl, _, _, hcs2, _⟩ := own_form HO'
      have HR : Hid (rgt (-1) hs = upI (-1) 1000 (hs.map (·.1))) := by
        have := HT.out
        rw [List.take_of_length_le (by have := hn.out; omega)] at this
        show _ = _
        rw [rgt_eq, this]
        rfl
      have HN : Hid (k = (hs.map (·.1)).length) := by show _ = _; rw [List.length_map]; exact hn.out
      have HC2 := Lib.hid hcs2
      clear HO' hcs2
      go_wp2_with fail
      with_reducible refine (rises_any A2 k c2 _ 1000 HN (by omega) _ _ HC2.out).mono ?_
      rintro e w2 ⟨rfl, rfl⟩
      go_wp2_with fail
      go_ret
      exact ⟨by rw [HR.out]; rfl, HB.out⟩
end Go.Proofs.Ytjigaoclngfcaaa
