/- The Reader's contracts: Read, Err, Num, Text, Left, End. -/
import Derived.Test.YthnghgnoonfgiaaDoorGetWalk
import Derived.Test.YthnghgnoonfgiaaDoorAppStr
import Derived.Test.YthnghgnoonfgiaaDoorPutWalk
import Derived.Laws.Pointers
import Derived.WalkKit
import Derived.WalkSpells
import Derived.Outline
import Derived.Lib.Hide
namespace Go.Proofs.YthnghgnoonfgiaaDoor
open Go.RowKit
set_option maxRecDepth 100000

/-- A Reader at block R: the bytes that are left, and the first error. -/
def Rd (w : World) (R : Nat) (l : List UInt8) (err : Int) : Prop :=
  ∃ A c, w.cell? ⟨R, 0, none⟩ = some (.slice A l.length c) ∧ w.cell? ⟨R, 1, none⟩ = some (.int .i64 err) ∧ w.frozen? ⟨R, 0, none⟩ = false ∧ w.frozen? ⟨R, 1, none⟩ = false ∧ l.length ≤ c ∧ BS w R A l

set_option maxHeartbeats 1000000 in
theorem text_any (v : Value) (l : List UInt8) (base : Nat) (s : ByteArray) (hs : s.size ≤ 1000000) (w : World) (hown : Own8 w base 5 v l) (hbase : base ≤ w.heap.size) (hlen : l.length ≤ 1000000000) :
    Calls Tryd.prog 13 #[v, .string s] w fun e w' => ∃ v', e = .returned v' ∧ Own8 w' base 5 v' (l ++ (enc s.size ++ s.data.toList)) ∧ w.grownBy w' v.ownBlock ∧ (v'.ownBlock = v.ownBlock ∨ ∃ g, v'.ownBlock = some g ∧ w.heap.size ≤ g) := by
  go_enter Tryd.func13, Tryd.ntmps13
  go_wp2_with fail
  refine (put_any v l base s.size (by omega) w hown hbase (by omega)).mono ?_
  rintro e w1 ⟨v1, rfl, hown1, hg1, hat1⟩
  have hs1 : base ≤ w1.heap.size := Nat.le_trans hbase hg1.size
  have hl1 : (l ++ enc s.size).length ≤ 1000000010 := by
    have h10 := glen_le10 s.size (by omega)
    rw [List.length_append]
    unfold glen at h10
    omega
  have hp1 : 0 < (l ++ enc s.size).length := by
    have := glen_pos s.size
    rw [List.length_append]
    unfold glen at this
    omega
  go_wp2_with (
    (at_builtin
     refine wpList_append8s _ rfl (.tmp 9) (.tmp 10) rfl base v1 (l ++ enc s.size) rfl hown1 hp1 s rfl (by omega) hs1 ?_
     intro v2 w2 hown2 hg2 hat2))
  go_ret
  rw [List.append_assoc] at hown2
  refine ⟨v2, rfl, hown2, ?_, ?_⟩
  · refine ⟨hg2.os.trans hg1.os, hg2.tape.trans hg1.tape, hg2.output.trans hg1.output, Nat.le_trans hg1.size hg2.size, fun k hk hne => (hg2.block k (Nat.lt_of_lt_of_le hk hg1.size) ?_).trans (hg1.block k hk hne)⟩
    rcases hat1 with h | ⟨g, h, hg⟩
    · rw [h]; exact hne
    · rw [h]; intro e; injection e with e; omega
  · rcases hat2 with h | h
    · rcases hat1 with h' | ⟨g, h', hg⟩
      · exact .inl (h.trans h')
      · exact .inr ⟨g, h.trans h', hg⟩
    · exact .inr ⟨_, h, hg1.size⟩

set_option maxHeartbeats 1000000 in
theorem read_any (A : Option Addr) (n c : Nat) (l : List UInt8) (w : World) (hl : n = l.length) (hn : l.length ≤ 1000000000) (hb : BS w w.heap.size A l) :
    Calls Tryd.prog 14 #[.slice A n c] w fun e w' => ∃ R, e = .returned (.pointer (some ⟨R, 0, none⟩)) ∧ Rd w' R l 0 ∧ Below w.heap.size w w' ∧ w.heap.size ≤ R ∧ R < w'.heap.size := by
  have HL := Lib.hid hl
  clear hl
  go_enter Tryd.func14, Tryd.ntmps14
  go_wp2_with (
    (at_builtin
     refine wpList_append8 _ rfl (.const (.slice none 0 0)) (.tmp 3) rfl w.heap.size (.slice none 0 0) [] rfl (Own8.nil _ _ _) A n c w.heap.size l rfl HL.out hb (by simp only [List.length_nil]; omega) (Nat.le_refl _) ?_
     intro v2 w2 hown2 hg2 hat2
     obtain ⟨A2, c2, hv2, hc2, _, hbs2, _⟩ := hown2.form
     rw [hv2]
     clear hv2))
  go_ret
  refine ⟨w2.heap.size, rfl, ⟨A2, c2, ?_, ?_, ?_, ?_, hc2, ?_⟩, ?_, hg2.size, by simp⟩
  · simp
  · simp
  · simp
  · simp
  · exact hbs2.below ((Below.refl _ _).alloc (Nat.le_refl _) _)
  · exact (below_of_grown hg2 (fun k hk => by simp [Value.ownBlock] at hk)).alloc hg2.size _

theorem err_some (R : Nat) (l : List UInt8) (err : Int) (w : World) (h : Rd w R l err) :
    Calls Tryd.prog 17 #[.pointer (some ⟨R, 0, none⟩)] w fun e w' => e = .returned (.int .i64 err) ∧ w = w' := by
  obtain ⟨A, c, h0, h1, f0, f1, hc, hb⟩ := h
  go_enter Tryd.func17, Tryd.ntmps17
  go_wp2_with fail
  go_ret
  exact ⟨rfl, rfl⟩
theorem err_nil (w : World) :
    Calls Tryd.prog 17 #[.pointer none] w fun e w' => e = .returned (.int .i64 2) ∧ w = w' := by
  go_enter Tryd.func17, Tryd.ntmps17
  go_wp2_with fail
  go_ret
  exact ⟨rfl, rfl⟩
theorem left_some (R : Nat) (l : List UInt8) (err : Int) (w : World) (h : Rd w R l err) :
    Calls Tryd.prog 19 #[.pointer (some ⟨R, 0, none⟩)] w fun e w' => e = .returned (.int .i64 (l.length : Nat)) ∧ w = w' := by
  obtain ⟨A, c, h0, h1, f0, f1, hc, hb⟩ := h
  go_enter Tryd.func19, Tryd.ntmps19
  go_wp2_with fail
  go_ret
  exact ⟨rfl, rfl⟩
theorem left_nil (w : World) :
    Calls Tryd.prog 19 #[.pointer none] w fun e w' => e = .returned (.int .i64 0) ∧ w = w' := by
  go_enter Tryd.func19, Tryd.ntmps19
  go_wp2_with fail
  go_ret
  exact ⟨rfl, rfl⟩

/-- What Num makes of the bytes. -/
theorem rd_setErr {w : World} {R : Nat} {l : List UInt8} (h : Rd w R l 0) : Rd (w.setCell ⟨R, 1, none⟩ (.int .i64 2)) R l 2 := by
  obtain ⟨A, c, h0, h1, f0, f1, hc, hb⟩ := h
  refine ⟨A, c, ?_, ?_, ?_, ?_, hc, ?_⟩
  · rw [World.cell?_setCell_other _ _ _ _ (by intro e; injection e with _ e; omega)]; exact h0
  · exact World.cell?_setCell_same _ _ _ (by rw [h1])
  · simpa using f0
  · simpa using f1
  · exact hb.keep fun p hp => World.cell?_setCell_other _ _ _ _ (by intro e; subst e; simp at hp)

theorem num_err (R : Nat) (l : List UInt8) (most : Int) (w : World) (h : Rd w R l 2) :
    Calls Tryd.prog 16 #[.pointer (some ⟨R, 0, none⟩), .int .i64 most] w fun e w' => e = .returned (.int .i64 0) ∧ w = w' := by
  go_enter Tryd.func16, Tryd.ntmps16
  go_wp2_with (go_at_call 17; (with_reducible refine (err_some R l 2 _ h).mono ?_); rintro e w' ⟨rfl, rfl⟩)
  go_ret
  exact ⟨rfl, rfl⟩
theorem num_nil (most : Int) (w : World) :
    Calls Tryd.prog 16 #[.pointer none, .int .i64 most] w fun e w' => e = .returned (.int .i64 0) ∧ w = w' := by
  go_enter Tryd.func16, Tryd.ntmps16
  go_wp2_with (go_at_call 17; (with_reducible refine (err_nil _).mono ?_); rintro e w' ⟨rfl, rfl⟩)
  go_ret
  exact ⟨rfl, rfl⟩

set_option maxHeartbeats 1000000 in
theorem num_bad (R : Nat) (l : List UInt8) (most : Int) (N k : Nat) (w : World) (h : Rd w R l 0) (hn : l.length ≤ 1000000) (HG : Hid (getN l = (N, k))) (h9 : -9223372036854775808 ≤ most) (h8 : most ≤ 9223372036854775807) (hbad : k = 0 ∨ max most 0 < (N : Int)) :
    Calls Tryd.prog 16 #[.pointer (some ⟨R, 0, none⟩), .int .i64 most] w fun e w' => e = .returned (.int .i64 0) ∧ w.setCell ⟨R, 1, none⟩ (.int .i64 2) = w' := by
  have h' := h
  obtain ⟨A, c, h0, h1, f0, f1, hc, hb⟩ := h'
  have hlt := getN_lt l
  rw [HG.out] at hlt
  obtain ⟨hN, hkl, _⟩ := hlt
  simp only at hN hkl
  rcases Nat.eq_zero_or_pos k with hk0 | hk0
  · subst hk0
    go_enter Tryd.func16, Tryd.ntmps16
    go_wp2_with fail
    refine (err_some R l 0 _ h).mono ?_
    rintro e w' ⟨rfl, rfl⟩
    go_wp2_with fail
    refine (get_any A _ c l R w rfl hn hb).mono ?_
    rw [HG.out]
    rintro e w' ⟨rfl, rfl⟩
    go_wp2_with fail
    go_ret
    exact ⟨rfl, rfl⟩
  · have hk1 : ((k : Int) == 0) = false := by simp; omega
    by_cases hm : 0 ≤ most
    · have hm' : most < (N : Int) := by omega
      go_enter Tryd.func16, Tryd.ntmps16
      go_wp2_with fail
      refine (err_some R l 0 _ h).mono ?_
      rintro e w' ⟨rfl, rfl⟩
      go_wp2_with fail
      refine (get_any A _ c l R w rfl hn hb).mono ?_
      rw [HG.out]
      rintro e w' ⟨rfl, rfl⟩
      go_wp2_with fail
      go_ret
      exact ⟨rfl, rfl⟩
    · have hm' : most < 0 := by omega
      have hN' : (0 : Int) < (N : Int) := by omega
      go_enter Tryd.func16, Tryd.ntmps16
      go_wp2_with fail
      refine (err_some R l 0 _ h).mono ?_
      rintro e w' ⟨rfl, rfl⟩
      go_wp2_with fail
      refine (get_any A _ c l R w rfl hn hb).mono ?_
      rw [HG.out]
      rintro e w' ⟨rfl, rfl⟩
      go_wp2_with fail
      go_ret
      exact ⟨rfl, rfl⟩

/-- Only the Reader's own block has turned; what is left, and the error, are these. -/
def Moved (w w' : World) (R : Nat) (l : List UInt8) (err : Int) : Prop := Rd w' R l err ∧ Below R w w' ∧ w'.heap.size = w.heap.size ∧ ∀ g, g ≠ R → w'.heap[g]? = w.heap[g]?
theorem Moved.trans {w w1 w2 : World} {R : Nat} {l l' : List UInt8} {e e' : Int} (h : Moved w w1 R l e) (h' : Moved w1 w2 R l' e') : Moved w w2 R l' e' := ⟨h'.1, h.2.1.trans h'.2.1, h'.2.2.1.trans h.2.2.1, fun g hg => (h'.2.2.2 g hg).trans (h.2.2.2 g hg)⟩
theorem moved_err {w : World} {R : Nat} {l : List UInt8} (h : Rd w R l 0) : Moved w (w.setCell ⟨R, 1, none⟩ (.int .i64 2)) R l 2 :=
  ⟨rd_setErr h, (Below.refl R w).setCell (p := ⟨R, 1, none⟩) (Nat.le_refl _) _, by simp [World.setCell], fun g hg => Below.heap_setCell _ _ _ _ hg⟩
theorem moved_on {w : World} {R : Nat} {l l' : List UInt8} (h : Rd w R l 0) (A' : Option Addr) (n' c' : Nat) (hn : n' = l'.length) (hc' : n' ≤ c') (hb : BS w R A' l') : Moved w (w.setCell ⟨R, 0, none⟩ (.slice A' n' c')) R l' 0 := by
  obtain ⟨A, c, h0, h1, f0, f1, hc, _⟩ := h
  subst hn
  refine ⟨⟨A', c', ?_, ?_, ?_, ?_, hc', ?_⟩, (Below.refl R w).setCell (p := ⟨R, 0, none⟩) (Nat.le_refl _) _, by simp [World.setCell], fun g hg => Below.heap_setCell _ _ _ _ hg⟩
  · exact World.cell?_setCell_same _ _ _ (by rw [h0])
  · rw [World.cell?_setCell_other _ _ _ _ (by intro e; injection e with _ e; omega)]; exact h1
  · simpa using f0
  · simpa using f1
  · exact hb.keep fun p hp => World.cell?_setCell_other _ _ _ _ (by intro e; subst e; simp at hp)

set_option maxHeartbeats 1000000 in
theorem num_ok (R : Nat) (l : List UInt8) (most : Int) (N k : Nat) (w : World) (h : Rd w R l 0) (hn : l.length ≤ 1000000) (HG : Hid (getN l = (N, k))) (hk : 0 < k) (hN : (N : Int) ≤ most) (h8 : most ≤ 9223372036854775807) :
    Calls Tryd.prog 16 #[.pointer (some ⟨R, 0, none⟩), .int .i64 most] w fun e w' => e = .returned (.int .i64 N) ∧ Moved w w' R (l.drop k) 0 := by
  have h' := h
  obtain ⟨A, c, h0, h1, f0, f1, hc, hb⟩ := h'
  have hlt := getN_lt l
  rw [HG.out] at hlt
  have hkl : k ≤ l.length := hlt.2.1
  clear hlt
  obtain ⟨A', hcut, hbs'⟩ := hb.from_ l.length c k rfl hkl hc
  have hk1 : ((k : Int) == 0) = false := by simp; omega
  have hm : 0 ≤ most := by omega
  have hmv := moved_on h A' (l.length - k) (c - k) (by rw [List.length_drop]) (by omega) hbs'
  have HM := Lib.hid hmv
  clear hmv hbs'
  go_enter Tryd.func16, Tryd.ntmps16
  go_wp2_with fail
  refine (err_some R l 0 _ h).mono ?_
  rintro e w' ⟨rfl, rfl⟩
  go_wp2_with fail
  refine (get_any A _ c l R w rfl hn hb).mono ?_
  rw [HG.out]
  rintro e w' ⟨rfl, rfl⟩
  go_wp2_with fail
  go_ret
  exact ⟨rfl, HM.out⟩

theorem rtext_err (R : Nat) (l : List UInt8) (most : Int) (w : World) (h : Rd w R l 2) :
    Calls Tryd.prog 15 #[.pointer (some ⟨R, 0, none⟩), .int .i64 most] w fun e w' => e = .returned (.string ⟨#[]⟩) ∧ w = w' := by
  go_enter Tryd.func15, Tryd.ntmps15
  go_wp2_with (first
    | (go_at_call 16; (with_reducible refine (num_err R l most _ h).mono ?_); rintro e w' ⟨rfl, rfl⟩)
    | (go_at_call 17; (with_reducible refine (err_some R l 2 _ h).mono ?_); rintro e w' ⟨rfl, rfl⟩))
  go_ret
  exact ⟨rfl, rfl⟩
theorem rtext_nil (most : Int) (w : World) :
    Calls Tryd.prog 15 #[.pointer none, .int .i64 most] w fun e w' => e = .returned (.string ⟨#[]⟩) ∧ w = w' := by
  go_enter Tryd.func15, Tryd.ntmps15
  go_wp2_with (first
    | (go_at_call 16; (with_reducible refine (num_nil most _).mono ?_); rintro e w' ⟨rfl, rfl⟩)
    | (go_at_call 17; (with_reducible refine (err_nil _).mono ?_); rintro e w' ⟨rfl, rfl⟩))
  go_ret
  exact ⟨rfl, rfl⟩
theorem rtext_bad (R : Nat) (l : List UInt8) (most : Int) (N k : Nat) (w : World) (h : Rd w R l 0) (hn : l.length ≤ 1000000) (HG : Hid (getN l = (N, k))) (h9 : -9223372036854775808 ≤ most) (h8 : most ≤ 9223372036854775807) (hbad : k = 0 ∨ max most 0 < (N : Int)) :
    Calls Tryd.prog 15 #[.pointer (some ⟨R, 0, none⟩), .int .i64 most] w fun e w' => e = .returned (.string ⟨#[]⟩) ∧ Moved w w' R l 2 := by
  have hmv := moved_err h
  go_enter Tryd.func15, Tryd.ntmps15
  go_wp2_with fail
  refine (num_bad R l most N k w h hn HG h9 h8 hbad).mono ?_
  rintro e w' ⟨rfl, rfl⟩
  generalize w.setCell ⟨R, 1, none⟩ (.int .i64 2) = w1 at hmv ⊢
  go_wp2_with fail
  refine (err_some R l 2 _ hmv.1).mono ?_
  rintro e w' ⟨rfl, rfl⟩
  go_wp2_with fail
  go_ret
  exact ⟨rfl, hmv⟩
set_option maxHeartbeats 1000000 in
theorem rtext_cut (R : Nat) (l : List UInt8) (most : Int) (N k : Nat) (w : World) (h : Rd w R l 0) (hn : l.length ≤ 1000000) (HG : Hid (getN l = (N, k))) (hk : 0 < k) (hN : (N : Int) ≤ most) (h8 : most ≤ 9223372036854775807) (hcut : l.length - k < N) :
    Calls Tryd.prog 15 #[.pointer (some ⟨R, 0, none⟩), .int .i64 most] w fun e w' => e = .returned (.string ⟨#[]⟩) ∧ Moved w w' R (l.drop k) 2 := by
  go_enter Tryd.func15, Tryd.ntmps15
  go_wp2_with fail
  refine (num_ok R l most N k w h hn HG hk hN h8).mono ?_
  rintro e w1 ⟨rfl, hmv⟩
  go_wp2_with fail
  refine (err_some R _ 0 _ hmv.1).mono ?_
  rintro e w' ⟨rfl, rfl⟩
  have hmv2 := moved_err hmv.1
  obtain ⟨A, c, h0, h1, f0, f1, hc, hb⟩ := hmv.1
  have hll : (l.drop k).length < N := by rw [List.length_drop]; exact hcut
  have HM := Lib.hid (hmv.trans hmv2)
  clear hmv hmv2 hb
  generalize (l.drop k).length = q at h0 hll hc
  go_wp2_with fail
  go_ret
  exact ⟨rfl, HM.out⟩
set_option maxHeartbeats 1000000 in
theorem rtext_ok (R : Nat) (l : List UInt8) (most : Int) (N k : Nat) (w : World) (h : Rd w R l 0) (hn : l.length ≤ 1000000) (HG : Hid (getN l = (N, k))) (hk : 0 < k) (hN : (N : Int) ≤ most) (h8 : most ≤ 9223372036854775807) (hfit : N ≤ l.length - k) :
    Calls Tryd.prog 15 #[.pointer (some ⟨R, 0, none⟩), .int .i64 most] w fun e w' => e = .returned (.string ⟨((l.drop k).take N).toArray⟩) ∧ Moved w w' R ((l.drop k).drop N) 0 := by
  go_enter Tryd.func15, Tryd.ntmps15
  go_wp2_with fail
  refine (num_ok R l most N k w h hn HG hk hN h8).mono ?_
  rintro e w1 ⟨rfl, hmv⟩
  go_wp2_with fail
  refine (err_some R _ 0 _ hmv.1).mono ?_
  rintro e w' ⟨rfl, rfl⟩
  have hrd := hmv.1
  obtain ⟨A, c, h0, h1, f0, f1, hc, hb⟩ := hmv.1
  obtain ⟨q, hq⟩ : ∃ q, q = (l.drop k).length := ⟨_, rfl⟩
  have hqN : N ≤ q := by rw [hq, List.length_drop]; exact hfit
  rw [← hq] at h0 hc
  obtain ⟨hto, hbt⟩ := hb.to_ q c N hq hqN hc
  obtain ⟨A', hfrom, hbf⟩ := hb.from_ q c N hq hqN hc
  have hconv := hbt.conv N c (by rw [List.length_take, ← hq]; omega)
  have HM := Lib.hid (hmv.trans (moved_on hrd A' (q - N) (c - N) (by rw [List.length_drop, hq]) (by omega) hbf))
  clear hmv hrd hb hbt hbf hq
  go_wp2_with fail
  go_ret
  exact ⟨rfl, HM.out⟩
theorem end_some (R : Nat) (l : List UInt8) (w : World) (h : Rd w R l 0) :
    Calls Tryd.prog 18 #[.pointer (some ⟨R, 0, none⟩)] w fun e w' => e = .returned (.int .i64 (if l.length = 0 then 0 else 2)) ∧ w = w' := by
  by_cases hl : l.length = 0
  · rw [if_pos hl]
    have hl' : ¬ (0 : Int) < (l.length : Int) := by omega
    have HL := Lib.hid hl
    go_enter Tryd.func18, Tryd.ntmps18
    go_wp2_with fail
    refine (err_some R l 0 _ h).mono ?_
    rintro e w' ⟨rfl, rfl⟩
    go_wp2_with fail
    refine (left_some R l 0 _ h).mono ?_
    rw [hl]
    rintro e w' ⟨rfl, rfl⟩
    clear hl hl'
    go_wp2_with fail
    go_ret
    exact ⟨rfl, rfl⟩
  · rw [if_neg hl]
    have hl' : (0 : Int) < (l.length : Int) := by omega
    go_enter Tryd.func18, Tryd.ntmps18
    go_wp2_with fail
    refine (err_some R l 0 _ h).mono ?_
    rintro e w' ⟨rfl, rfl⟩
    go_wp2_with fail
    refine (left_some R l 0 _ h).mono ?_
    generalize l.length = n at hl hl'
    rintro e w' ⟨rfl, rfl⟩
    go_wp2_with fail
    go_ret
    exact ⟨rfl, rfl⟩
theorem end_err (R : Nat) (l : List UInt8) (w : World) (h : Rd w R l 2) :
    Calls Tryd.prog 18 #[.pointer (some ⟨R, 0, none⟩)] w fun e w' => e = .returned (.int .i64 2) ∧ w = w' := by
  go_enter Tryd.func18, Tryd.ntmps18
  go_wp2_with fail
  refine (err_some R l 2 _ h).mono ?_
  rintro e w' ⟨rfl, rfl⟩
  go_wp2_with fail
  go_ret
  exact ⟨rfl, rfl⟩
theorem end_nil (w : World) :
    Calls Tryd.prog 18 #[.pointer none] w fun e w' => e = .returned (.int .i64 2) ∧ w = w' := by
  go_enter Tryd.func18, Tryd.ntmps18
  go_wp2_with fail
  refine (err_nil _).mono ?_
  rintro e w' ⟨rfl, rfl⟩
  go_wp2_with fail
  go_ret
  exact ⟨rfl, rfl⟩
end Go.Proofs.YthnghgnoonfgiaaDoor
