/- A Reader wherever it lies (a field of another struct too): Read, Err, Num, Text, Left, End; vint.Text. -/
import Derived.Test.YtjigaoclngfcaaaGetWalk
import Derived.Test.YtjigaoclngfcaaaAppStr
import Derived.Test.YtjigaoclngfcaaaPutWalk
import Derived.Laws.Pointers
import Derived.WalkKit
import Derived.WalkSpells
import Derived.Outline
import Derived.Lib.Hide
namespace Go.Proofs.Ytjigaoclngfcaaa
open Go.RowKit
set_option maxRecDepth 100000

/-- The slice at A reads as the bytes l, and lies in a block of a given kind. -/
def BN (w : World) (P : Nat → Prop) (A : Option Addr) (l : List UInt8) : Prop :=
  0 < l.length → ∃ b o, A = some ⟨b, o, none⟩ ∧ P b ∧ ∀ k, k < l.length → w.cell? ⟨b, o + k, none⟩ = some (.int .u8 (at8 l k))
theorem BN.bs {w : World} {P : Nat → Prop} {A : Option Addr} {l : List UInt8} (h : BN w P A l) (B : Nat) (hB : ∀ b, P b → b < B) : BS w B A l := fun hp => by
  obtain ⟨b, o, e, hb, hc⟩ := h hp
  exact ⟨b, o, e, hB b hb, hc⟩
theorem BN.keep {w w' : World} {P : Nat → Prop} {A : Option Addr} {l : List UInt8} (h : BN w P A l) (hk : ∀ p : Addr, P p.block → w'.cell? p = w.cell? p) : BN w' P A l := fun hn => by
  obtain ⟨b, o, e, hb, hc⟩ := h hn
  exact ⟨b, o, e, hb, fun k hk' => (hk _ hb).trans (hc k hk')⟩
theorem BN.from_ {w : World} {P : Nat → Prop} {A : Option Addr} {l : List UInt8} (h : BN w P A l) (n c k : Nat) (hn : n = l.length) (hk : k ≤ n) (hc : n ≤ c) :
    ∃ A', (∀ W, (Instr.slice 25 (.slice A n c) (some (.int .i64 (k : Int))) none none).run Try.prog W = .ok (.slice A' (n - k) (c - k)) W) ∧ BN w P A' (l.drop k) := by
  have hu : Try.prog.underlying 25 = some (.slice (Try.prog.elem 25)) := by kernel_rfl
  have he : Try.prog.elem 25 = 5 := by kernel_rfl
  refine ⟨if c = k then A else A.map (·.add (k * 1)), fun W => ?_, fun hp => ?_⟩
  · have hz : (sizeOf 5).run Try.prog W = .ok 1 W := by kernel_rfl
    rw [run_slice_l W 25 A n c hu .i64 (k : Int) (by omega) (by omega), he, hz]
    simp only [Result.andThen, sliced, Int.toNat_natCast]
  · rw [List.length_drop] at hp
    obtain ⟨b, o, rfl, hb, hcell⟩ := h (by omega)
    rw [if_neg (by omega)]
    refine ⟨b, o + k, by simp [addr_add], hb, fun j hj => ?_⟩
    rw [List.length_drop] at hj
    rw [Nat.add_assoc, hcell (k + j) (by omega)]
    simp [at8, List.getElem?_drop]
theorem BN.to_ {w : World} {P : Nat → Prop} {A : Option Addr} {l : List UInt8} (h : BN w P A l) (n c k : Nat) (hn : n = l.length) (hk : k ≤ n) (hc : n ≤ c) :
    (∀ W, (Instr.slice 25 (.slice A n c) none (some (.int .i64 (k : Int))) none).run Try.prog W = .ok (.slice A k c) W) ∧ BN w P A (l.take k) := by
  have hu : Try.prog.underlying 25 = some (.slice (Try.prog.elem 25)) := by kernel_rfl
  have he : Try.prog.elem 25 = 5 := by kernel_rfl
  refine ⟨fun W => ?_, fun hp => ?_⟩
  · have hz : (sizeOf 5).run Try.prog W = .ok 1 W := by kernel_rfl
    rw [run_slice_h W 25 A n c hu .i64 (k : Int) (by omega) (by omega), he, hz]
    cases A with
    | none => simp [Result.andThen, sliced]
    | some a => simp [Result.andThen, sliced, Addr.add]
  · rw [List.length_take] at hp
    obtain ⟨b, o, rfl, hb, hcell⟩ := h (by omega)
    refine ⟨b, o, rfl, hb, fun j hj => ?_⟩
    rw [List.length_take] at hj
    rw [hcell j (by omega)]
    simp [at8, show j < k by omega]
/-- A Reader at place o of block R: the bytes that are left, in blocks of a kind P, and the first error. -/
def RdO (w : World) (R o : Nat) (P : Nat → Prop) (l : List UInt8) (err : Int) : Prop :=
  (∀ b, P b → b ≠ R ∧ b < w.heap.size) ∧ ∃ A c, w.cell? ⟨R, o, none⟩ = some (.slice A l.length c) ∧ w.cell? ⟨R, o + 1, none⟩ = some (.int .i64 err) ∧ w.frozen? ⟨R, o, none⟩ = false ∧ w.frozen? ⟨R, o + 1, none⟩ = false ∧ l.length ≤ c ∧ BN w P A l
/-- Only the Reader's own two cells have turned. -/
structure MvO (w w' : World) (R o : Nat) (P : Nat → Prop) (l : List UInt8) (err : Int) : Prop where
  rd : RdO w' R o P l err
  bel : Below R w w'
  size : w'.heap.size = w.heap.size
  blk : ∀ g, g ≠ R → w'.heap[g]? = w.heap[g]?
  cel : ∀ k, k ≠ o → k ≠ o + 1 → w'.cell? ⟨R, k, none⟩ = w.cell? ⟨R, k, none⟩
  frz : ∀ p, w'.frozen? p = w.frozen? p
theorem MvO.trans {w w1 w2 : World} {R o : Nat} {P : Nat → Prop} {l l' : List UInt8} {e e' : Int} (h : MvO w w1 R o P l e) (h' : MvO w1 w2 R o P l' e') : MvO w w2 R o P l' e' :=
  ⟨h'.rd, h.bel.trans h'.bel, h'.size.trans h.size, fun g hg => (h'.blk g hg).trans (h.blk g hg), fun k a b => (h'.cel k a b).trans (h.cel k a b), fun p => (h'.frz p).trans (h.frz p)⟩
theorem MvO.refl {w : World} {R o : Nat} {P : Nat → Prop} {l : List UInt8} {e : Int} (h : RdO w R o P l e) : MvO w w R o P l e := ⟨h, Below.refl _ _, rfl, fun _ _ => rfl, fun _ _ _ => rfl, fun _ => rfl⟩
set_option maxHeartbeats 1000000 in
theorem text_any (v : Value) (l : List UInt8) (base : Nat) (s : ByteArray) (hs : s.size ≤ 1000000) (w : World) (hown : Own8 w base 5 v l) (hbase : base ≤ w.heap.size) (hlen : l.length ≤ 1000000000) :
    Calls Try.prog 41 #[v, .string s] w fun e w' => ∃ v', e = .returned v' ∧ Own8 w' base 5 v' (l ++ (enc s.size ++ s.data.toList)) ∧ w.grownBy w' v.ownBlock ∧ (v'.ownBlock = v.ownBlock ∨ ∃ g, v'.ownBlock = some g ∧ w.heap.size ≤ g) := by
  go_enter Try.func41, Try.ntmps41
  go_wp2_with fail
  refine (put_any v l base s.size (by omega) w hown hbase (by omega)).mono ?_
  rintro e w1 ⟨v1, rfl, hown1, hg1, hat1⟩
  have hs1 : base ≤ w1.heap.size := Nat.le_trans hbase hg1.size
  have hl1 : (l ++ enc s.size).length ≤ 1000000010 := by
    have h10 := glen_le10 s.size (by omega)
    rw [List.length_append]
    unfold glen at h10
    omega
  have hp1 : 0 < (l ++ enc s.size).length := by
    have := glen_pos s.size
    rw [List.length_append]
    unfold glen at this
    omega
  go_wp2_with (
    (at_builtin
     refine wpList_append8s _ rfl (.tmp 9) (.tmp 10) rfl base v1 (l ++ enc s.size) rfl hown1 hp1 s rfl (by omega) hs1 ?_
     intro v2 w2 hown2 hg2 hat2))
  go_ret
  rw [List.append_assoc] at hown2
  refine ⟨v2, rfl, hown2, ?_, ?_⟩
  · refine ⟨hg2.os.trans hg1.os, hg2.tape.trans hg1.tape, hg2.output.trans hg1.output, Nat.le_trans hg1.size hg2.size, fun k hk hne => (hg2.block k (Nat.lt_of_lt_of_le hk hg1.size) ?_).trans (hg1.block k hk hne)⟩
    rcases hat1 with h | ⟨g, h, hg⟩
    · rw [h]; exact hne
    · rw [h]; intro e; injection e with e; omega
  · rcases hat2 with h | h
    · rcases hat1 with h' | ⟨g, h', hg⟩
      · exact .inl (h.trans h')
      · exact .inr ⟨g, h.trans h', hg⟩
    · exact .inr ⟨_, h, hg1.size⟩

set_option maxHeartbeats 1000000 in
theorem read_o (A : Option Addr) (n c : Nat) (l : List UInt8) (w : World) (hl : n = l.length) (hn : l.length ≤ 1000000000) (hb : BS w w.heap.size A l) :
    Calls Try.prog 34 #[.slice A n c] w fun e w' => ∃ R, e = .returned (.pointer (some ⟨R, 0, none⟩)) ∧ RdO w' R 0 (fun b => w.heap.size ≤ b ∧ b < R) l 0 ∧ Below w.heap.size w w' ∧ w.heap.size ≤ R ∧ R < w'.heap.size := by
  have HL := Lib.hid hl
  clear hl
  go_enter Try.func34, Try.ntmps34
  go_wp2_with (
    (at_builtin
     refine wpList_append8 _ rfl (.const (.slice none 0 0)) (.tmp 3) rfl w.heap.size (.slice none 0 0) [] rfl (Own8.nil _ _ _) A n c w.heap.size l rfl HL.out hb (by simp only [List.length_nil]; omega) (Nat.le_refl _) ?_
     intro v2 w2 hown2 hg2 hat2
     obtain ⟨A2, c2, hv2, hc2, _, hbs2, hob2⟩ := hown2.form
     rw [hv2]))
  go_ret
  refine ⟨w2.heap.size, rfl, ⟨fun b hb => ⟨by omega, by simp; omega⟩, A2, c2, ?_, ?_, ?_, ?_, hc2, ?_⟩, ?_, hg2.size, by simp⟩
  · simp
  · simp
  · simp
  · simp
  · intro hp
    obtain ⟨b, o, rfl, hb, hc⟩ := hbs2 hp
    have := hob2 b (by rw [hv2]; rfl)
    exact ⟨b, o, rfl, ⟨by omega, hb⟩, fun k hk => (((Below.refl w2.heap.size w2).alloc (Nat.le_refl _) _).cell (p := ⟨b, o + k, none⟩) hb).trans (hc k hk)⟩
  · exact (below_of_grown hg2 (fun k hk => by simp [Value.ownBlock] at hk)).alloc hg2.size _

theorem err_o (R o : Nat) (P : Nat → Prop) (l : List UInt8) (err : Int) (w : World) (h : RdO w R o P l err) :
    Calls Try.prog 57 #[.pointer (some ⟨R, o, none⟩)] w fun e w' => e = .returned (.int .i64 err) ∧ w = w' := by
  obtain ⟨hP, A, c, h0, h1, f0, f1, hc, hb⟩ := h
  go_enter Try.func57, Try.ntmps57
  go_wp2_with fail
  go_ret
  exact ⟨rfl, rfl⟩
theorem left_o (R o : Nat) (P : Nat → Prop) (l : List UInt8) (err : Int) (w : World) (h : RdO w R o P l err) :
    Calls Try.prog 37 #[.pointer (some ⟨R, o, none⟩)] w fun e w' => e = .returned (.int .i64 (l.length : Nat)) ∧ w = w' := by
  obtain ⟨hP, A, c, h0, h1, f0, f1, hc, hb⟩ := h
  go_enter Try.func37, Try.ntmps37
  go_wp2_with fail
  go_ret
  exact ⟨rfl, rfl⟩
/-- What Num makes of the bytes. -/
theorem rd_setErr_o {w : World} {R o : Nat} {P : Nat → Prop} {l : List UInt8} (h : RdO w R o P l 0) : RdO (w.setCell ⟨R, o + 1, none⟩ (.int .i64 2)) R o P l 2 := by
  obtain ⟨hP, A, c, h0, h1, f0, f1, hc, hb⟩ := h
  refine ⟨fun b hb => ⟨(hP b hb).1, by simpa [World.setCell] using (hP b hb).2⟩, A, c, ?_, ?_, ?_, ?_, hc, ?_⟩
  · rw [World.cell?_setCell_other _ _ _ _ (by intro e; injection e with _ e; omega)]; exact h0
  · exact World.cell?_setCell_same _ _ _ (by rw [h1])
  · simpa using f0
  · simpa using f1
  · exact hb.keep fun p hp => World.cell?_setCell_other _ _ _ _ (by intro e; subst e; exact (hP _ hp).1 rfl)

theorem num_err_o (R o : Nat) (P : Nat → Prop) (l : List UInt8) (most : Int) (w : World) (h : RdO w R o P l 2) :
    Calls Try.prog 45 #[.pointer (some ⟨R, o, none⟩), .int .i64 most] w fun e w' => e = .returned (.int .i64 0) ∧ w = w' := by
  go_enter Try.func45, Try.ntmps45
  go_wp2_with (go_at_call 57; (with_reducible refine (err_o R o P l 2 _ h).mono ?_); rintro e w' ⟨rfl, rfl⟩)
  go_ret
  exact ⟨rfl, rfl⟩
set_option maxHeartbeats 1000000 in
theorem num_bad_o (R o : Nat) (P : Nat → Prop) (l : List UInt8) (most : Int) (N k : Nat) (w : World) (h : RdO w R o P l 0) (hn : l.length ≤ 1000000) (HG : Hid (getN l = (N, k))) (h9 : -9223372036854775808 ≤ most) (h8 : most ≤ 9223372036854775807) (hbad : k = 0 ∨ max most 0 < (N : Int)) :
    Calls Try.prog 45 #[.pointer (some ⟨R, o, none⟩), .int .i64 most] w fun e w' => e = .returned (.int .i64 0) ∧ w.setCell ⟨R, o + 1, none⟩ (.int .i64 2) = w' := by
  have h' := h
  obtain ⟨hP, A, c, h0, h1, f0, f1, hc, hb⟩ := h'
  have hlt := getN_lt l
  rw [HG.out] at hlt
  obtain ⟨hN, hkl, _⟩ := hlt
  simp only at hN hkl
  rcases Nat.eq_zero_or_pos k with hk0 | hk0
  · subst hk0
    go_enter Try.func45, Try.ntmps45
    go_wp2_with fail
    refine (err_o R o P l 0 _ h).mono ?_
    rintro e w' ⟨rfl, rfl⟩
    go_wp2_with fail
    refine (get_any A _ c l w.heap.size w rfl hn (hb.bs _ fun b h => (hP b h).2)).mono ?_
    rw [HG.out]
    rintro e w' ⟨rfl, rfl⟩
    go_wp2_with fail
    go_ret
    exact ⟨rfl, rfl⟩
  · have hk1 : ((k : Int) == 0) = false := by simp; omega
    by_cases hm : 0 ≤ most
    · have hm' : most < (N : Int) := by omega
      go_enter Try.func45, Try.ntmps45
      go_wp2_with fail
      refine (err_o R o P l 0 _ h).mono ?_
      rintro e w' ⟨rfl, rfl⟩
      go_wp2_with fail
      refine (get_any A _ c l w.heap.size w rfl hn (hb.bs _ fun b h => (hP b h).2)).mono ?_
      rw [HG.out]
      rintro e w' ⟨rfl, rfl⟩
      go_wp2_with fail
      go_ret
      exact ⟨rfl, rfl⟩
    · have hm' : most < 0 := by omega
      have hN' : (0 : Int) < (N : Int) := by omega
      go_enter Try.func45, Try.ntmps45
      go_wp2_with fail
      refine (err_o R o P l 0 _ h).mono ?_
      rintro e w' ⟨rfl, rfl⟩
      go_wp2_with fail
      refine (get_any A _ c l w.heap.size w rfl hn (hb.bs _ fun b h => (hP b h).2)).mono ?_
      rw [HG.out]
      rintro e w' ⟨rfl, rfl⟩
      go_wp2_with fail
      go_ret
      exact ⟨rfl, rfl⟩

theorem moved_err_o {w : World} {R o : Nat} {P : Nat → Prop} {l : List UInt8} (h : RdO w R o P l 0) : MvO w (w.setCell ⟨R, o + 1, none⟩ (.int .i64 2)) R o P l 2 :=
  ⟨rd_setErr_o h, (Below.refl R w).setCell (p := ⟨R, o + 1, none⟩) (Nat.le_refl _) _, by simp [World.setCell], fun g hg => Below.heap_setCell _ _ _ _ hg,
    fun k _ h2 => World.cell?_setCell_other _ _ _ _ (by intro e; injection e with _ e; omega), fun p => by simp⟩
theorem moved_on_o {w : World} {R o : Nat} {P : Nat → Prop} {l l' : List UInt8} (h : RdO w R o P l 0) (A' : Option Addr) (n' c' : Nat) (hn : n' = l'.length) (hc' : n' ≤ c') (hb : BN w P A' l') : MvO w (w.setCell ⟨R, o, none⟩ (.slice A' n' c')) R o P l' 0 := by
  obtain ⟨hP, A, c, h0, h1, f0, f1, hc, _⟩ := h
  subst hn
  refine ⟨⟨fun b hb => ⟨(hP b hb).1, by simpa [World.setCell] using (hP b hb).2⟩, A', c', ?_, ?_, ?_, ?_, hc', ?_⟩, (Below.refl R w).setCell (p := ⟨R, o, none⟩) (Nat.le_refl _) _, by simp [World.setCell], fun g hg => Below.heap_setCell _ _ _ _ hg,
    fun k h1 _ => World.cell?_setCell_other _ _ _ _ (by intro e; injection e with _ e; omega), fun p => by simp⟩
  · exact World.cell?_setCell_same _ _ _ (by rw [h0])
  · rw [World.cell?_setCell_other _ _ _ _ (by intro e; injection e with _ e; omega)]; exact h1
  · simpa using f0
  · simpa using f1
  · exact hb.keep fun p hp => World.cell?_setCell_other _ _ _ _ (by intro e; subst e; exact (hP _ hp).1 rfl)

set_option maxHeartbeats 1000000 in
theorem num_ok_o (R o : Nat) (P : Nat → Prop) (l : List UInt8) (most : Int) (N k : Nat) (w : World) (h : RdO w R o P l 0) (hn : l.length ≤ 1000000) (HG : Hid (getN l = (N, k))) (hk : 0 < k) (hN : (N : Int) ≤ most) (h8 : most ≤ 9223372036854775807) :
    Calls Try.prog 45 #[.pointer (some ⟨R, o, none⟩), .int .i64 most] w fun e w' => e = .returned (.int .i64 N) ∧ MvO w w' R o P (l.drop k) 0 := by
  have h' := h
  obtain ⟨hP, A, c, h0, h1, f0, f1, hc, hb⟩ := h'
  have hlt := getN_lt l
  rw [HG.out] at hlt
  have hkl : k ≤ l.length := hlt.2.1
  clear hlt
  obtain ⟨A', hcut, hbs'⟩ := hb.from_ l.length c k rfl hkl hc
  have hk1 : ((k : Int) == 0) = false := by simp; omega
  have hm : 0 ≤ most := by omega
  have hmv := moved_on_o h A' (l.length - k) (c - k) (by rw [List.length_drop]) (by omega) hbs'
  have HM := Lib.hid hmv
  clear hmv hbs'
  go_enter Try.func45, Try.ntmps45
  go_wp2_with fail
  refine (err_o R o P l 0 _ h).mono ?_
  rintro e w' ⟨rfl, rfl⟩
  go_wp2_with fail
  refine (get_any A _ c l w.heap.size w rfl hn (hb.bs _ fun b h => (hP b h).2)).mono ?_
  rw [HG.out]
  rintro e w' ⟨rfl, rfl⟩
  go_wp2_with fail
  go_ret
  exact ⟨rfl, HM.out⟩

theorem rtext_err_o (R o : Nat) (P : Nat → Prop) (l : List UInt8) (most : Int) (w : World) (h : RdO w R o P l 2) :
    Calls Try.prog 56 #[.pointer (some ⟨R, o, none⟩), .int .i64 most] w fun e w' => e = .returned (.string ⟨#[]⟩) ∧ w = w' := by
  go_enter Try.func56, Try.ntmps56
  go_wp2_with (first
    | (go_at_call 45; (with_reducible refine (num_err_o R o P l most _ h).mono ?_); rintro e w' ⟨rfl, rfl⟩)
    | (go_at_call 57; (with_reducible refine (err_o R o P l 2 _ h).mono ?_); rintro e w' ⟨rfl, rfl⟩))
  go_ret
  exact ⟨rfl, rfl⟩
theorem rtext_bad_o (R o : Nat) (P : Nat → Prop) (l : List UInt8) (most : Int) (N k : Nat) (w : World) (h : RdO w R o P l 0) (hn : l.length ≤ 1000000) (HG : Hid (getN l = (N, k))) (h9 : -9223372036854775808 ≤ most) (h8 : most ≤ 9223372036854775807) (hbad : k = 0 ∨ max most 0 < (N : Int)) :
    Calls Try.prog 56 #[.pointer (some ⟨R, o, none⟩), .int .i64 most] w fun e w' => e = .returned (.string ⟨#[]⟩) ∧ MvO w w' R o P l 2 := by
  have hmv := moved_err_o h
  go_enter Try.func56, Try.ntmps56
  go_wp2_with fail
  refine (num_bad_o R o P l most N k w h hn HG h9 h8 hbad).mono ?_
  rintro e w' ⟨rfl, rfl⟩
  generalize w.setCell ⟨R, o + 1, none⟩ (.int .i64 2) = w1 at hmv ⊢
  go_wp2_with fail
  refine (err_o R o P l 2 _ hmv.rd).mono ?_
  rintro e w' ⟨rfl, rfl⟩
  go_wp2_with fail
  go_ret
  exact ⟨rfl, hmv⟩
set_option maxHeartbeats 1000000 in
theorem rtext_cut_o (R o : Nat) (P : Nat → Prop) (l : List UInt8) (most : Int) (N k : Nat) (w : World) (h : RdO w R o P l 0) (hn : l.length ≤ 1000000) (HG : Hid (getN l = (N, k))) (hk : 0 < k) (hN : (N : Int) ≤ most) (h8 : most ≤ 9223372036854775807) (hcut : l.length - k < N) :
    Calls Try.prog 56 #[.pointer (some ⟨R, o, none⟩), .int .i64 most] w fun e w' => e = .returned (.string ⟨#[]⟩) ∧ MvO w w' R o P (l.drop k) 2 := by
  go_enter Try.func56, Try.ntmps56
  go_wp2_with fail
  refine (num_ok_o R o P l most N k w h hn HG hk hN h8).mono ?_
  rintro e w1 ⟨rfl, hmv⟩
  go_wp2_with fail
  refine (err_o R o P _ 0 _ hmv.rd).mono ?_
  rintro e w' ⟨rfl, rfl⟩
  have hmv2 := moved_err_o hmv.rd
  obtain ⟨hP, A, c, h0, h1, f0, f1, hc, hb⟩ := hmv.rd
  have hll : (l.drop k).length < N := by rw [List.length_drop]; exact hcut
  have HM := Lib.hid (hmv.trans hmv2)
  clear hmv hmv2 hb
  generalize (l.drop k).length = q at h0 hll hc
  go_wp2_with fail
  go_ret
  exact ⟨rfl, HM.out⟩
set_option maxHeartbeats 1000000 in
theorem rtext_ok_o (R o : Nat) (P : Nat → Prop) (l : List UInt8) (most : Int) (N k : Nat) (w : World) (h : RdO w R o P l 0) (hn : l.length ≤ 1000000) (HG : Hid (getN l = (N, k))) (hk : 0 < k) (hN : (N : Int) ≤ most) (h8 : most ≤ 9223372036854775807) (hfit : N ≤ l.length - k) :
    Calls Try.prog 56 #[.pointer (some ⟨R, o, none⟩), .int .i64 most] w fun e w' => e = .returned (.string ⟨((l.drop k).take N).toArray⟩) ∧ MvO w w' R o P ((l.drop k).drop N) 0 := by
  go_enter Try.func56, Try.ntmps56
  go_wp2_with fail
  refine (num_ok_o R o P l most N k w h hn HG hk hN h8).mono ?_
  rintro e w1 ⟨rfl, hmv⟩
  go_wp2_with fail
  refine (err_o R o P _ 0 _ hmv.rd).mono ?_
  rintro e w' ⟨rfl, rfl⟩
  have hrd := hmv.rd
  obtain ⟨hP, A, c, h0, h1, f0, f1, hc, hb⟩ := hmv.rd
  obtain ⟨q, hq⟩ : ∃ q, q = (l.drop k).length := ⟨_, rfl⟩
  have hqN : N ≤ q := by rw [hq, List.length_drop]; exact hfit
  rw [← hq] at h0 hc
  obtain ⟨hto, hbt⟩ := hb.to_ q c N hq hqN hc
  obtain ⟨A', hfrom, hbf⟩ := hb.from_ q c N hq hqN hc
  have hconv := (hbt.bs w1.heap.size fun b h => (hP b h).2).conv N c (by rw [List.length_take, ← hq]; omega)
  have HM := Lib.hid (hmv.trans (moved_on_o hrd A' (q - N) (c - N) (by rw [List.length_drop, hq]) (by omega) hbf))
  clear hmv hrd hb hbt hbf hq
  go_wp2_with fail
  go_ret
  exact ⟨rfl, HM.out⟩
theorem end_o (R o : Nat) (P : Nat → Prop) (l : List UInt8) (w : World) (h : RdO w R o P l 0) :
    Calls Try.prog 36 #[.pointer (some ⟨R, o, none⟩)] w fun e w' => e = .returned (.int .i64 (if l.length = 0 then 0 else 2)) ∧ w = w' := by
  by_cases hl : l.length = 0
  · rw [if_pos hl]
    have hl' : ¬ (0 : Int) < (l.length : Int) := by omega
    have HL := Lib.hid hl
    go_enter Try.func36, Try.ntmps36
    go_wp2_with fail
    refine (err_o R o P l 0 _ h).mono ?_
    rintro e w' ⟨rfl, rfl⟩
    go_wp2_with fail
    refine (left_o R o P l 0 _ h).mono ?_
    rw [hl]
    rintro e w' ⟨rfl, rfl⟩
    clear hl hl'
    go_wp2_with fail
    go_ret
    exact ⟨rfl, rfl⟩
  · rw [if_neg hl]
    have hl' : (0 : Int) < (l.length : Int) := by omega
    go_enter Try.func36, Try.ntmps36
    go_wp2_with fail
    refine (err_o R o P l 0 _ h).mono ?_
    rintro e w' ⟨rfl, rfl⟩
    go_wp2_with fail
    refine (left_o R o P l 0 _ h).mono ?_
    generalize l.length = n at hl hl'
    rintro e w' ⟨rfl, rfl⟩
    go_wp2_with fail
    go_ret
    exact ⟨rfl, rfl⟩
theorem end_err_o (R o : Nat) (P : Nat → Prop) (l : List UInt8) (w : World) (h : RdO w R o P l 2) :
    Calls Try.prog 36 #[.pointer (some ⟨R, o, none⟩)] w fun e w' => e = .returned (.int .i64 2) ∧ w = w' := by
  go_enter Try.func36, Try.ntmps36
  go_wp2_with fail
  refine (err_o R o P l 2 _ h).mono ?_
  rintro e w' ⟨rfl, rfl⟩
  go_wp2_with fail
  go_ret
  exact ⟨rfl, rfl⟩
end Go.Proofs.Ytjigaoclngfcaaa
