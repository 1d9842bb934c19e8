/- changed, and the steps 2 to 5, of package stem; Stem. -/
import Derived.Test.YtjeccmmhmdgdgaaGreatDoorAs4
namespace Go.Proofs.YtjeccmmhmdgdgaaGreatDoor.St
open Go.RowKit
set_option maxRecDepth 100000

/-- A slice of changes: two texts each, side by side. -/
def CH (w : World) (b : Nat) (cs : List (List UInt8 × List UInt8)) : Prop :=
  b < w.heap.size ∧ ∀ k (h : k < cs.length), w.cell? ⟨b, 0 + k * 2, none⟩ = some (.string ⟨cs[k].1.toArray⟩) ∧ w.cell? ⟨b, 0 + k * 2 + 1, none⟩ = some (.string ⟨cs[k].2.toArray⟩)
theorem chg_drop (l : List UInt8) (a : Nat) (cs : List (List UInt8 × List UInt8)) (k : Nat) (h : k < cs.length) :
    chg l a (cs.drop k) = if suf l cs[k].1 then (if a < measL (cutL l cs[k].1.length) then cutL l cs[k].1.length ++ cs[k].2 else l) else chg l a (cs.drop (k + 1)) := by
  rw [List.drop_eq_getElem_cons h]
  generalize cs[k] = p
  obtain ⟨x, y⟩ := p
  rfl

set_option maxHeartbeats 4000000 in
theorem changed_any (l : List UInt8) (hl : l.length ≤ 1000000000) (a : Nat) (ai : Int) (HA : Hid (ai = (a : Int))) (b : Nat) (cs : List (List UInt8 × List UInt8)) (n : Nat) (HL : Hid (n = cs.length)) (hn : n ≤ 100) (hc2 : ∀ p ∈ cs, p.2.length ≤ 100) (w : World) (hb : CH w b cs) :
    Calls Tryz.prog 74 #[.string (strOf l), .int .i64 ai, .slice (some ⟨b, 0, none⟩) n n] w fun e w' => e = .returned (.string (strOf (chg l a cs))) ∧ Below w.heap.size w w' := by
  have ha := HA.out
  subst ha
  obtain ⟨hbw, hb⟩ := hb
  have HB := Lib.hid hb
  have HC2 := Lib.hid hc2
  clear hb hc2
  go_enter Tryz.func74, Tryz.ntmps74
  go_wp2_with fail
  go_loopw [13] (fun i wr => ∃ k : Nat, k ≤ n ∧ i = .int .i64 k ∧ Below w.heap.size w wr ∧ Hid (chg l a cs = chg l a (cs.drop k))) (fun i _ => n - (intOf i).toNat)
  case atStart => exact ⟨0, Nat.zero_le _, rfl, Below.refl _ _, rfl⟩
  case round =>
    obtain ⟨k, hk, rfl, hbel, HG⟩ := hrel
    by_cases hlt : k < n
    · have hkl : k < cs.length := by rw [← HL.out]; exact hlt
      have hc := HB.out k hkl
      have HD := Lib.hid (chg_drop l a cs k hkl)
      have hy : cs[k].2.length ≤ 100 := HC2.out _ (List.getElem_mem hkl)
      obtain ⟨x, hx⟩ : ∃ x, x = cs[k].1 := ⟨_, rfl⟩
      obtain ⟨y, hy'⟩ : ∃ y, y = cs[k].2 := ⟨_, rfl⟩
      rw [← hx, ← hy'] at hc HD
      rw [← hy'] at hy
      have hc1 : wr.cell? ⟨b, 0 + k * 2, none⟩ = some (.string ⟨x.toArray⟩) := (hbel.cell (p := ⟨b, 0 + k * 2, none⟩) hbw).trans hc.1
      have hc2 : wr.cell? ⟨b, 0 + k * 2 + 1, none⟩ = some (.string ⟨y.toArray⟩) := (hbel.cell (p := ⟨b, 0 + k * 2 + 1, none⟩) hbw).trans hc.2
      clear hc hx hy'
      rw [Nat.zero_add] at hc1 hc2
      cases hsuf : suf l x
      · have HS := Lib.hid hsuf
        have HG2 : Hid (chg l a cs = chg l a (cs.drop (k + 1))) := by show _ = _; rw [HG.out, HD.out, HS.out]; rfl
        clear hsuf
        go_wp2_with fail
        with_reducible refine (cut_no _ _ HS hl _).mono ?_
        rintro e w' ⟨rfl, rfl⟩
        go_wp2_with fail
        refine ⟨⟨k + 1, by omega, by go_num, hbel.alloc hbel.size _, HG2⟩, ?_⟩
        simp [intOf]
        omega
      · have HS := Lib.hid hsuf
        have lx : (cutL l x.length).length ≤ 1000000000 := by rw [cut_len]; omega
        have hz3 : (strOf (cutL l x.length)).size ≤ 1000000000 := by rw [size8]; exact lx
        obtain ⟨m, hm⟩ : ∃ m, measL (cutL l x.length) = m := ⟨_, rfl⟩
        have HM := Lib.hid hm
        have hmb : m ≤ 1000000000 := by rw [← hm]; exact Nat.le_trans (measL_le _) lx
        have E1 := Lib.hid (add8 (cutL l x.length) y)
        have hz4 : (⟨y.toArray⟩ : ByteArray).size ≤ 100 := by simp [ByteArray.size]; exact hy
        by_cases ham : a < m
        · have HE : Hid (chg l a cs = cutL l x.length ++ y) := by show _ = _; rw [HG.out, HD.out, HS.out, HM.out]; simp [ham]
          clear hsuf hm
          go_wp2_with (first | (go_at_call 70; (with_reducible refine (cut_yes _ _ _ rfl HS hl _).mono ?_); rintro e w' ⟨rfl, rfl⟩) | (go_at_call 71; (with_reducible refine (meas_is _ _ HM lx _).mono ?_); rintro e w' ⟨rfl, rfl⟩))
          go_ret
          exact ⟨by rw [HE.out]; exact congrArg (fun x => Ending.returned (.string x)) E1.out, hbel.alloc hbel.size _⟩
        · have HE : Hid (chg l a cs = l) := by show _ = _; rw [HG.out, HD.out, HS.out, HM.out]; simp [ham]
          clear hsuf hm
          go_wp2_with (first | (go_at_call 70; (with_reducible refine (cut_yes _ _ _ rfl HS hl _).mono ?_); rintro e w' ⟨rfl, rfl⟩) | (go_at_call 71; (with_reducible refine (meas_is _ _ HM lx _).mono ?_); rintro e w' ⟨rfl, rfl⟩))
          go_ret
          exact ⟨by rw [HE.out]; rfl, hbel.alloc hbel.size _⟩
    · have HE : Hid (chg l a cs = l) := by
        show _ = _
        rw [HG.out, List.drop_eq_nil_of_le (by rw [← HL.out]; omega)]
        rfl
      go_wp2_with fail
      go_ret
      exact ⟨by rw [HE.out]; rfl, hbel⟩

def cellsC (cs : List (List UInt8 × List UInt8)) : List Value := cs.flatMap fun p => [.string ⟨p.1.toArray⟩, .string ⟨p.2.toArray⟩]
theorem cellsC_at : ∀ (cs : List (List UInt8 × List UInt8)) (k : Nat) (h : k < cs.length), (cellsC cs)[k * 2]? = some (.string ⟨cs[k].1.toArray⟩) ∧ (cellsC cs)[k * 2 + 1]? = some (.string ⟨cs[k].2.toArray⟩)
  | [], _, h => absurd h (by simp)
  | p :: t, 0, _ => ⟨rfl, rfl⟩
  | p :: t, k + 1, h => by
    have ih := cellsC_at t k (by simpa using h)
    have e : cellsC (p :: t) = .string ⟨p.1.toArray⟩ :: .string ⟨p.2.toArray⟩ :: cellsC t := rfl
    rw [e, show (k + 1) * 2 = k * 2 + 1 + 1 by omega]
    simpa using ih
theorem CH.lit (w : World) (cs : List (List UInt8 × List UInt8)) (cells : Array Value) (t : TypeId) (fr : Nat × Nat) (h : cells = (cellsC cs).toArray) : CH (w.alloc (.cells cells t fr)) w.heap.size cs := by
  subst h
  refine ⟨by simp, fun k hk => ?_⟩
  obtain ⟨h1, h2⟩ := cellsC_at cs k hk
  have key : ∀ o, (w.alloc (.cells (cellsC cs).toArray t fr)).cell? ⟨w.heap.size, o, none⟩ = (cellsC cs)[o]? := fun o => by
    simp only [World.cell?, heap_alloc_new]
    simp
  rw [key, key, Nat.zero_add]
  exact ⟨h1, h2⟩
set_option maxHeartbeats 4000000 in
theorem shorter_any (l : List UInt8) (hl : l.length ≤ 1000000000) (w : World) :
    Calls Tryz.prog 57 #[.string (strOf l)] w fun e w' => e = .returned (.string (strOf (chg l 0 list3))) ∧ Below w.heap.size w w' := by
  go_enter Tryz.func57, Tryz.ntmps57
  go_wp2_with fail
  refine (changed_any l hl 0 0 rfl w.heap.size list3 7 rfl (by decide) (by decide) _ (CH.lit w list3 _ _ _ rfl)).mono ?_
  rintro e w1 ⟨rfl, hb1⟩
  have hb : Below w.heap.size w w1 := ((Below.refl _ _).alloc (Nat.le_refl _) _).trans (hb1.mono (by simp))
  clear hb1
  go_wp2_with fail
  go_ret
  exact ⟨rfl, hb⟩
set_option maxHeartbeats 4000000 in
theorem plainer_any (l : List UInt8) (hl : l.length ≤ 1000000000) (w : World) :
    Calls Tryz.prog 56 #[.string (strOf l)] w fun e w' => e = .returned (.string (strOf (chg l 0 list2))) ∧ Below w.heap.size w w' := by
  go_enter Tryz.func56, Tryz.ntmps56
  go_wp2_with fail
  refine (changed_any l hl 0 0 rfl w.heap.size list2 20 rfl (by decide) (by decide) _ (CH.lit w list2 _ _ _ rfl)).mono ?_
  rintro e w1 ⟨rfl, hb1⟩
  have hb : Below w.heap.size w w1 := ((Below.refl _ _).alloc (Nat.le_refl _) _).trans (hb1.mono (by simp))
  clear hb1
  go_wp2_with fail
  go_ret
  exact ⟨rfl, hb⟩

set_option maxHeartbeats 4000000 in
theorem end_any (l : List UInt8) (hl : l.length ≤ 1000000000) (w : World) :
    Calls Tryz.prog 58 #[.string (strOf l)] w fun e w' => e = .returned (.string (strOf (st4 l))) ∧ Below w.heap.size w w' := by
  have HH : Hid (st4 l = if suf l [105, 111, 110] then (if decide (1 < measL (cutL l 3)) && (suf (cutL l 3) [115] || suf (cutL l 3) [116]) then cutL l 3 else l) else chg l 1 list4) := rfl
  have l3 : (cutL l 3).length ≤ 1000000000 := by rw [cut_len]; omega
  obtain ⟨b1, h1⟩ : ∃ b, suf l [105, 111, 110] = b := ⟨_, rfl⟩
  obtain ⟨m, h2⟩ : ∃ m, measL (cutL l 3) = m := ⟨_, rfl⟩
  obtain ⟨b3, h3⟩ : ∃ b, suf (cutL l 3) [115] = b := ⟨_, rfl⟩
  obtain ⟨b4, h4⟩ : ∃ b, suf (cutL l 3) [116] = b := ⟨_, rfl⟩
  rw [h1, h2, h3, h4] at HH
  have H1 := Lib.hid h1
  have H2 := Lib.hid h2
  have H3 := Lib.hid h3
  have H4 := Lib.hid h4
  clear h1 h2 h3 h4
  cases b1
  · have HE : Hid (st4 l = chg l 1 list4) := HH.out
    clear HH
    go_enter Tryz.func58, Tryz.ntmps58
    go_wp2_with fail
    with_reducible refine (cut_no _ _ H1 hl _).mono ?_
    rintro e w' ⟨rfl, rfl⟩
    go_wp2_with fail
    refine (changed_any l hl 1 1 rfl w.heap.size list4 18 rfl (by decide) (by decide) _ (CH.lit w list4 _ _ _ rfl)).mono ?_
    rintro e w1 ⟨rfl, hb1⟩
    have hb : Below w.heap.size w w1 := ((Below.refl _ _).alloc (Nat.le_refl _) _).trans (hb1.mono (by simp))
    clear hb1
    go_wp2_with fail
    go_ret
    exact ⟨by rw [HE.out]; rfl, hb⟩
  · by_cases hm : 1 < m
    · have hm' : (1 : Int) < (m : Int) := by omega
      have hd : decide (1 < m) = true := decide_eq_true hm
      rw [hd] at HH
      clear hd
      cases b3
      case' false => cases b4
      all_goals
        go_enter Tryz.func58, Tryz.ntmps58
        go_wp2_with (first
          | (go_at_call 70; (with_reducible refine (cut_yes _ _ 3 rfl H1 hl _).mono ?_); rintro e w' ⟨rfl, rfl⟩)
          | (go_at_call 71; (with_reducible refine (meas_is _ _ H2 l3 _).mono ?_); rintro e w' ⟨rfl, rfl⟩)
          | (go_at_call 69; (first | (with_reducible refine (suf_is _ _ _ H3 l3 _).mono ?_) | (with_reducible refine (suf_is _ _ _ H4 l3 _).mono ?_)); rintro e w' ⟨rfl, rfl⟩))
        go_ret
        exact ⟨by rw [HH.out]; rfl, Below.refl _ _⟩
    · have hm' : (m : Int) ≤ 1 := by omega
      have hd : decide (1 < m) = false := decide_eq_false hm
      rw [hd] at HH
      clear hd hm
      go_enter Tryz.func58, Tryz.ntmps58
      go_wp2_with (first
          | (go_at_call 70; (with_reducible refine (cut_yes _ _ 3 rfl H1 hl _).mono ?_); rintro e w' ⟨rfl, rfl⟩)
          | (go_at_call 71; (with_reducible refine (meas_is _ _ H2 l3 _).mono ?_); rintro e w' ⟨rfl, rfl⟩))
      go_ret
      exact ⟨by rw [HH.out]; rfl, Below.refl _ _⟩
end Go.Proofs.YtjeccmmhmdgdgaaGreatDoor.St
