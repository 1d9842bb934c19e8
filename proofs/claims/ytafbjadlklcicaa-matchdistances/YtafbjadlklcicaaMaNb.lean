/- neighbours: what holds of each two spans that follow each other. -/
import Derived.Test.YtafbjadlklcicaaMaIs
import Derived.Laws.EntriesVeiled
namespace Go.Proofs.Ytafbjadlklcicaa
open Go.RowKit Go.Shelf
set_option maxRecDepth 100000

abbrev Ky := Int × Int
abbrev kyS (s : Sp) : Ky := (s.1, s.2.1)
def leK (a b : Ky) : Bool := decide (a.1 < b.1 ∨ (a.1 = b.1 ∧ a.2 ≤ b.2))
def insK (k : Ky) : List Ky → List Ky
  | [] => [k]
  | x :: t => if leK k x then k :: x :: t else x :: insK k t
def sortK : List Ky → List Ky
  | [] => []
  | k :: t => insK k (sortK t)
theorem insK_perm (k : Ky) : ∀ l, List.Perm (insK k l) (k :: l)
  | [] => List.Perm.refl _
  | x :: t => by
    rw [insK]
    split
    · exact List.Perm.refl _
    · exact ((insK_perm k t).cons x).trans (List.Perm.swap k x t)
theorem sortK_perm : ∀ l, List.Perm (sortK l) l
  | [] => List.Perm.refl _
  | k :: t => (insK_perm k _).trans ((sortK_perm t).cons k)
theorem leK_iff (a b : Ky) : leK a b = true ↔ (a.1 < b.1 ∨ (a.1 = b.1 ∧ a.2 ≤ b.2)) := decide_eq_true_iff
theorem insK_sorted (k : Ky) : ∀ l : List Ky, l.Pairwise (fun a b => leK a b = true) → (insK k l).Pairwise (fun a b => leK a b = true)
  | [], _ => by rw [insK]; exact List.pairwise_singleton _ _
  | x :: t, h => by
    obtain ⟨h1, h2⟩ := List.pairwise_cons.1 h
    rw [insK]
    by_cases hk : leK k x = true
    · rw [if_pos hk]
      refine List.pairwise_cons.2 ⟨fun y hy => ?_, h⟩
      rcases List.mem_cons.1 hy with rfl | hy
      · exact hk
      · have := h1 y hy
        rw [leK_iff] at *
        omega
    · rw [if_neg hk]
      refine List.pairwise_cons.2 ⟨fun y hy => ?_, insK_sorted k t h2⟩
      rcases List.mem_cons.1 ((insK_perm k t).subset hy) with rfl | hy
      · rw [leK_iff] at *
        omega
      · exact h1 y hy
theorem sortK_sorted : ∀ l : List Ky, (sortK l).Pairwise (fun a b => leK a b = true)
  | [] => List.Pairwise.nil
  | k :: t => insK_sorted k _ (sortK_sorted t)
theorem sorted_keys (l l' : List Sp) (hp : List.Perm l' l) (hs : l'.Pairwise (fun a b => ltOf (cfL (·.1) (·.2.1)) b a = false)) : l'.map kyS = sortK (l.map kyS) := by
  have h1 : (l'.map kyS).Pairwise (fun a b => leK a b = true) := by
    rw [List.pairwise_map]
    refine hs.imp fun {a b} h => ?_
    rw [ltL] at h
    rw [leK_iff]
    simp only [decide_eq_false_iff_not, not_or, not_and] at h
    dsimp only [kyS]
    omega
  have hp' : List.Perm (l'.map kyS) (sortK (l.map kyS)) := (hp.map kyS).trans (sortK_perm _).symm
  exact hp'.eq_of_pairwise (fun a b _ _ h1 h2 => by rw [leK_iff] at h1 h2; exact Prod.ext (by omega) (by omega)) h1 (sortK_sorted _)
/-- Something holds of each two that follow each other. -/
def adjK (r : Ky → Ky → Bool) : List Ky → Bool
  | a :: b :: t => r a b && adjK r (b :: t)
  | _ => true
theorem adjK_iff (r : Ky → Ky → Bool) : ∀ l : List Ky, adjK r l = true ↔ ∀ k (h : k + 1 < l.length), r (l[k]'(by omega)) l[k + 1] = true
  | [] => by simp [adjK]
  | [a] => by simp [adjK]
  | a :: b :: t => by
    rw [adjK, Bool.and_eq_true, adjK_iff r (b :: t)]
    constructor
    · rintro ⟨h1, h2⟩ k hk
      cases k with
      | zero => exact h1
      | succ k => exact h2 k (by simpa using hk)
    · intro h
      exact ⟨h 0 (by simp), fun k hk => h (k + 1) (by simpa using hk)⟩
/-- A function value that tells r of two spans by where they begin and end. -/
def FnR (F : Nat) (cb : Array Value) (r : Ky → Ky → Bool) (w : World) : Prop :=
  (∀ args W, (callFunc F args).run Try.prog W = .ok (.enter F args) W) ∧
  ∀ W, Below w.heap.size w W → ∀ a s, Calls Try.prog F (#[spV a, spV s] ++ cb) W fun e w' => e = .returned (.bool (r (kyS a) (kyS s))) ∧ Below W.heap.size W w'
def nbP (r : Ky → Ky → Bool) (l : List Sp) : Bool := adjK r (sortK (l.map kyS))
set_option maxHeartbeats 4000000 in
theorem nb_any (F : Nat) (cb : Array Value) (r : Ky → Ky → Bool) (v : Value) (l : List Sp) (hl : l.length ≤ 1000000) (w : World) (h : SV w w.heap.size v l) (hF : Hid (FnR F cb r w)) :
    Calls Try.prog 56 #[v, .func (.func F) #[] cb] w fun e w' => e = .returned (.bool (nbP r l)) ∧ Below w.heap.size w w' := by
  have KS := Lib.hid (sorted_any 81 _ (swoL _ _) place_cmp v l hl w h)
  have HCF := hF.out.1
  have hmx : Try.prog.follows .mixedOrders = true := by kernel_rfl
  obtain ⟨A, c, rfl, _⟩ := h
  have HL := Lib.hid hl
  generalize l.length = n0 at KS ⊢
  obtain ⟨R, hR⟩ : ∃ R, R = nbP r l := ⟨_, rfl⟩
  rw [← hR]
  have HR := Lib.hid hR
  clear hR hl
  go_enter Try.func56, Try.ntmps56
  go_wp2_with fail
  with_reducible refine KS.out.mono ?_
  rintro e w1 ⟨u, l', rfl, hp, hs, ho, hb⟩
  have hkeys := sorted_keys l l' hp hs
  have hRi : (R = true ↔ ∀ k (h : k + 1 < l'.length), r (kyS (l'[k]'(by omega))) (kyS l'[k + 1]) = true) := by
    rw [HR.out]
    unfold nbP
    rw [← hkeys, adjK_iff]
    constructor
    · intro h k hk
      have := h k (by rw [List.length_map]; exact hk)
      rw [List.getElem_map, List.getElem_map] at this
      exact this
    · intro h k hk
      rw [List.getElem_map, List.getElem_map]
      exact h k (by rw [List.length_map] at hk; exact hk)
  obtain ⟨A', c', ev, _, _, h3, _⟩ := own_form ho
  subst ev
  have HB := Lib.hid hb
  have HRI := Lib.hid hRi
  have HC := Lib.hid h3
  have hlen : l'.length ≤ 1000000 := by rw [hp.length_eq]; exact HL.out
  obtain ⟨n, hn⟩ : ∃ n, n = l'.length := ⟨_, rfl⟩
  have HN := Lib.hid hn
  rw [← hn] at hlen ⊢
  clear hp hs ho hb hkeys hRi h3 KS hn
  go_wp2_with fail
  go_loopw [5] (fun i wr => ∃ k : Nat, i = .int .i64 ((k + 1 : Nat) : Int) ∧ (k = 0 ∨ k + 1 ≤ n) ∧ Hid (∀ j (h : j + 1 < l'.length), j < k → r (kyS (l'[j]'(by omega))) (kyS l'[j + 1]) = true) ∧ Hid (Below w1.heap.size w1 wr)) (fun i _ => n - (intOf i).toNat)
  case atStart => exact ⟨0, rfl, .inl rfl, fun j _ h => absurd h (Nat.not_lt_zero _), Below.refl _ _⟩
  case round =>
    obtain ⟨k, rfl, hk, HU, HB2⟩ := hrel
    by_cases hlt : k + 1 < n
    · have ht1 : k + 1 < l'.length := by rw [← HN.out]; exact hlt
      have ht0 : k < l'.length := by omega
      have HLT := Lib.hid hlt
      obtain ⟨b, o, rfl, hb, hc⟩ := (HC.out.below HB2.out) (by rw [spCs_len]; omega)
      obtain ⟨c0, c1, c2, c3⟩ := spCs_at l' (k + 1) ht1
      obtain ⟨d0, d1, d2, d3⟩ := spCs_at l' k ht0
      have HU0 : Hid (r (kyS l'[k]) (kyS l'[k + 1]) = true → ∀ j (h : j + 1 < l'.length), j < k + 1 → r (kyS (l'[j]'(by omega))) (kyS l'[j + 1]) = true) := fun h j hj hjk => by
        rcases Nat.lt_or_ge j k with hjk' | hjk'
        · exact HU.out j hj hjk'
        · obtain rfl : j = k := by omega
          exact h
      have HU1 : Hid (r (kyS l'[k]) (kyS l'[k + 1]) = false → R = false) := fun h => Bool.eq_false_iff.2 fun e => by have := HRI.out.1 e k ht1; rw [h] at this; cases this
      obtain ⟨x, hx⟩ : ∃ x, x = l'[k + 1] := ⟨_, rfl⟩
      obtain ⟨y, hy⟩ : ∃ y, y = l'[k] := ⟨_, rfl⟩
      rw [← hx] at c0 c1 c2 c3 HU0 HU1
      rw [← hy] at d0 d1 d2 d3 HU0 HU1
      have a0 := hc _ _ c0
      have a1 := hc _ _ c1
      have a2 := hc _ _ c2
      have a3 := hc _ _ c3
      have b0 := hc _ _ d0
      have b1 := hc _ _ d1
      have b2 := hc _ _ d2
      have b3 := hc _ _ d3
      rw [← Nat.add_assoc] at a1 a2 a3 b1 b2 b3
      have bw := HB.out.trans (HB2.out.mono HB.out.size)
      have KF : Hid (∀ p : WB wr.heap.size wr, Calls Try.prog F (#[spV y, spV x] ++ cb) p.w fun e w' => e = .returned (.bool (r (kyS y) (kyS x))) ∧ Below p.w.heap.size p.w w') := fun p => hF.out.2 p.w (bw.trans (p.ok.mono bw.size)) y x
      obtain ⟨q, hq⟩ : ∃ q, q = r (kyS y) (kyS x) := ⟨_, rfl⟩
      rw [← hq] at KF HU0 HU1
      have HBW := Lib.hid bw
      obtain ⟨f, t', u, v'⟩ := x
      obtain ⟨f2, t2, u2, v2⟩ := y
      unfold spV at KF
      simp only at a0 a1 a2 a3 b0 b1 b2 b3 KF
      have z0 : ∀ p : WB wr.heap.size wr, p.w.cell? ⟨b, o + (k + 1) * 4, none⟩ = some (.int .i64 f) := fun p => (p.ok.cell (World.block_lt_of_cell? wr _ a0)).trans a0
      have z1 : ∀ p : WB wr.heap.size wr, p.w.cell? ⟨b, o + (k + 1) * 4 + 1, none⟩ = some (.int .i64 t') := fun p => (p.ok.cell (World.block_lt_of_cell? wr _ a1)).trans a1
      have z2 : ∀ p : WB wr.heap.size wr, p.w.cell? ⟨b, o + (k + 1) * 4 + 2, none⟩ = some (.int .i64 u) := fun p => (p.ok.cell (World.block_lt_of_cell? wr _ a2)).trans a2
      have z3 : ∀ p : WB wr.heap.size wr, p.w.cell? ⟨b, o + (k + 1) * 4 + 3, none⟩ = some (.int .i64 v') := fun p => (p.ok.cell (World.block_lt_of_cell? wr _ a3)).trans a3
      have u0 : ∀ p : WB wr.heap.size wr, p.w.cell? ⟨b, o + k * 4, none⟩ = some (.int .i64 f2) := fun p => (p.ok.cell (World.block_lt_of_cell? wr _ b0)).trans b0
      have u1 : ∀ p : WB wr.heap.size wr, p.w.cell? ⟨b, o + k * 4 + 1, none⟩ = some (.int .i64 t2) := fun p => (p.ok.cell (World.block_lt_of_cell? wr _ b1)).trans b1
      have u2' : ∀ p : WB wr.heap.size wr, p.w.cell? ⟨b, o + k * 4 + 2, none⟩ = some (.int .i64 u2) := fun p => (p.ok.cell (World.block_lt_of_cell? wr _ b2)).trans b2
      have u3 : ∀ p : WB wr.heap.size wr, p.w.cell? ⟨b, o + k * 4 + 3, none⟩ = some (.int .i64 v2) := fun p => (p.ok.cell (World.block_lt_of_cell? wr _ b3)).trans b3
      have e0 : ((k + 1 : Nat) : Int) = (k : Int) + 1 := by omega
      have e1 : ((k : Int) + 1).toNat = k + 1 := by omega
      have e2 : (0 : Int) ≤ (k : Int) + 1 := by omega
      have e3 : (k : Int) + 1 < (n : Int) := by omega
      have e4 : (k : Int) < (n : Int) := by omega
      have e5 : IntKind.i64.wrap ((k : Int) + 1 - 1) = (k : Int) := by rw [IntKind.wrap_i64]; omega
      have e6 : IntKind.i64.wrap ((k : Int) + 1 + 1) = ((k + 1 + 1 : Nat) : Int) := by rw [IntKind.wrap_i64]; omega
      clear a0 a1 a2 a3 b0 b1 b2 b3 c0 c1 c2 c3 d0 d1 d2 d3 hx hy hc hb hq ht1 ht0 HU bw
      rw [e0]
      clear e0
      cases q
      · have HX := Lib.hid (HU1.out rfl)
        go_wp2_with fail
        refine wp_region_quietB wr.heap.size wr hmx (by kernel_rfl) (Below.refl _ _) ?_
        repeat (go_big_quiet_step ((go_at_fn F; with_reducible exact calls_quietB (KF.out _) (Nat.le_refl _))))
        refine wpQuiet_nil ?_
        intro _ hw'
        obtain ⟨pq, rfl⟩ := hw'
        go_wp2_with fail
        go_ret
        exact ⟨by rw [HX.out]; rfl, HBW.out.trans (pq.ok.mono HBW.out.size)⟩
      · have HX := Lib.hid (HU0.out rfl)
        go_wp2_with fail
        refine wp_region_quietB wr.heap.size wr hmx (by kernel_rfl) (Below.refl _ _) ?_
        repeat (go_big_quiet_step ((go_at_fn F; with_reducible exact calls_quietB (KF.out _) (Nat.le_refl _))))
        refine wpQuiet_nil ?_
        intro _ hw'
        obtain ⟨pq, rfl⟩ := hw'
        go_wp2_with fail
        exact ⟨⟨k + 1, by go_num, .inr HLT.out, HX.out, HB2.out.trans (pq.ok.mono HB2.out.size)⟩, by have := HLT.out; simp [intOf]; omega⟩
    · have HX : Hid (R = true) := HRI.out.2 fun j hj => HU.out j hj (by have := HN.out; omega)
      have hkI : ¬ ((k + 1 : Nat) : Int) < (n : Int) := by omega
      go_wp2_with fail
      go_ret
      exact ⟨by rw [HX.out]; rfl, HB.out.trans (HB2.out.mono HB.out.size)⟩
end Go.Proofs.Ytafbjadlklcicaa
