/- post.Encode. -/
import Derived.Test.YtjigaoclngfcaaaPoChk
import Derived.Test.YtjigaoclngfcaaaRdO
import Derived.Stop.RegionWithIn
import Derived.Handy
import Derived.OwnWalk
namespace Go.Proofs.Ytjigaoclngfcaaa
open Go.RowKit Go.Shelf
set_option maxRecDepth 100000

attribute [local go_sem] Oper.semAt_some

theorem in_round {P : Program} {f : FuncId} {args : Array Value} {w : World} {R : Ending → World → Prop} (l n : Nat) (h : Calls P f args w R) : CallsIn (Fence.wide.inRound l) n P f args w R := (callsIn_wide (n := n)).2 h
theorem chunk_stops (n : Nat) (hn : 1 ≤ n) (Bs Bn cap N : Nat) (A : Option Addr) (hA : 0 < N → ∃ b o, A = some ⟨b, o, none⟩) (hNc : N ≤ cap) (hreach : N ≤ 1000000) (w : World) (h1 : Bs < w.heap.size) (h2 : Bn < w.heap.size)
    (hBs : w.cell? ⟨Bs, 0, none⟩ = some (.slice A N cap)) (hBn : w.cell? ⟨Bn, 0, none⟩ = some (.int .i64 4)) :
    SeqStopsK Fence.wide n Try.prog 62 #[.pointer (some ⟨Bs, 0, none⟩), .pointer (some ⟨Bn, 0, none⟩)] (fun x : Nat => #[bval A N x]) (KB Bs Bn) (fun ys => ys = List.range (nbl N)) (fun pre => pre <+: List.range (nbl N)) (nbl N) w := fun l J Jx W hW hJa _ hY h0 =>
  chunk1_in n hn l Bs Bn cap N A hA hNc hreach J Jx W hJa hY ((hW.cell (p := ⟨Bs, 0, none⟩) h1).trans hBs) ((hW.cell (p := ⟨Bn, 0, none⟩) h2).trans hBn) h0
set_option maxHeartbeats 1000000 in
theorem chunk_in (n : Nat) (A : Option Addr) (len cap : Nat) (w : World) :
    CallsIn Fence.wide n Try.prog 40 #[.slice A len cap, .int .i64 4] w fun e w' => e = .returned (.func (.func 62) #[] #[.pointer (some ⟨w.heap.size, 0, none⟩), .pointer (some ⟨w.heap.size + 1, 0, none⟩)]) ∧ w' = (w.alloc (.cells #[.slice A len cap] 22)).alloc (.cells #[.int .i64 4] 3) := by
  refine callsIn_of_wp Try.func40 rfl trivial ?_ rfl
  simp only [Try.ntmps40, List.size_toArray, List.length_cons, List.length_nil, Nat.reduceAdd, Nat.reduceSub, Array.replicate_succ, Array.replicate_zero, List.push_toArray, List.append_toArray, List.nil_append, List.cons_append]
  gi_wp2
  go_ret
  exact ⟨rfl, rfl⟩
theorem blk_len (hs : List HI) (N x : Nat) (hN : N = hs.length) : (blk hs (bix N x)).length = blen N x := by
  unfold blk blen
  rw [List.length_take, List.length_drop, hN]
theorem blen_pos (N x : Nat) (h : 0 < nbl N) : 1 ≤ blen N x ∧ blen N x ≤ 4 := by
  unfold blen bix nbl at *
  omega
theorem HS.blk {w : World} {B : Nat} {A : Option Addr} {hs : List HI} (h : HS w B A hs) (N x : Nat) (hN : N = hs.length) : HS w B (bad A N x) (blk hs (bix N x)) := fun hp => by
  have hl := blk_len hs N x hN
  rw [hl] at hp
  have hb : blen N x ≤ N - 4 * bix N x := by unfold blen; omega
  obtain ⟨b, o, rfl, hlt, hc⟩ := h (by omega)
  refine ⟨b, o + 4 * bix N x * 2, rfl, hlt, fun k hk => ?_⟩
  rw [hl] at hk
  have hkx : 4 * bix N x + k < hs.length := by omega
  have e : (Proofs.Ytjigaoclngfcaaa.blk hs (bix N x))[k]'(by rw [hl]; exact hk) = hs[4 * bix N x + k] := by
    unfold Proofs.Ytjigaoclngfcaaa.blk
    rw [List.getElem_take, List.getElem_drop]
  rw [e]
  have := hc (4 * bix N x + k) hkx
  rw [show o + (4 * bix N x + k) * 2 = o + 4 * bix N x * 2 + k * 2 by omega] at this
  exact this
theorem own_box {β : Type} (B : Nat) (t : TypeId) (f : β → Value) : Own (fun s W => Boxed W B t (f s)) := by
  rintro s X Y row hv hg hrow
  exact hv.kept hg (fun e' => by
    obtain ⟨o, ho, hc⟩ := hrow B e'.symm
    rw [show X.heap[B]? = _ from hv] at ho; cases ho; cases hc)
theorem ko_below {w w' : World} (h : Below w.heap.size w w') : KeepsOthers w w' := ⟨h.size, fun k _ hk _ => (h.block k (Array.getElem?_eq_some_iff.1 hk).1).trans hk⟩
theorem ko_own {w w' : World} {base : Nat} {t : TypeId} {v : Value} {l : List UInt8} (h : Own8 w base t v l) (hg : w.grownBy w' v.ownBlock) : KeepsOthers w w' :=
  KeepsOthers.of_grownBy hg fun j o ej hj => by
    rcases h.2 with ⟨rfl, _⟩ | ⟨g, cap, cur, rfl, _, hgb, _⟩
    · simp [Value.ownBlock] at ej
    · obtain rfl : g = j := by simpa [Value.ownBlock] using ej
      rw [hgb] at hj; cases hj; rfl
theorem docOf_last (bs : List HI) (h : 0 < bs.length) : docOf 0 bs = (bs[bs.length - 1]'(by omega)).1 := by
  unfold docOf
  rw [List.getLast?_eq_getElem?, List.length_map, List.getElem?_map, List.getElem?_eq_getElem (by omega)]
  rfl
theorem eB1_le (d : Int) (bs : List HI) (h4 : bs.length ≤ 4) (h : ∀ x ∈ bs, x.2.length ≤ 6000) : (eB1 d bs).length ≤ 240200 ∧ (eBl d bs).length ≤ 240100 := by
  have g1 := eBl_le 6000 (by decide) bs d h
  have g2 : bs.length * (20 + 10 * 6000) ≤ 4 * 60020 := Nat.mul_le_mul h4 (by decide)
  have g3 := glen_le10 (df (docOf 0 bs) d) (df_lt _ _)
  have g4 := glen_le10 (eBl d bs).length (by omega)
  unfold glen at g3 g4
  simp only [eB1, List.length_append]
  omega
theorem eBs_le : ∀ (bs : List (List HI)) (d : Int), (∀ b ∈ bs, b.length ≤ 4 ∧ ∀ x ∈ b, x.2.length ≤ 6000) → (eBs d bs).length ≤ bs.length * 240200
  | [], _, _ => by simp [eBs]
  | b :: t, d, h => by
    have g1 := (eB1_le d b (h b (by simp)).1 (h b (by simp)).2).1
    have ih := eBs_le t (docOf 0 b) (fun x hx => h x (by simp [hx]))
    simp only [eBs, List.length_append, List.length_cons, Nat.add_mul, Nat.one_mul]
    omega
/-- The state of the loop over blocks: the bytes laid, the last document; the iterator's own variables. -/
structure ES (w : World) (base Bb : Nat) (A : Option Addr) (N c : Nat) (W0 W : World) (v : Value) (L : List UInt8) (p : Int) : Prop where
  b : Boxed W Bb 25 v
  own : W.ownsRow base 5 1 v L.length (cells8 L)
  d : Boxed W (Bb + 1) 3 (.int .i64 p)
  s : Boxed W (Bb + 1 + 1) 22 (.slice A N c)
  n : Boxed W (Bb + 1 + 1 + 1) 3 (.int .i64 4)
  bel : Below base w W
  ko : KeepsOthers W0 W
  bs : base ≤ Bb
theorem ES.put {w : World} {base Bb : Nat} {A : Option Addr} {N c : Nat} {W0 W w5 : World} {v v5 : Value} {L L5 : List UInt8} {p : Int} (h : ES w base Bb A N c W0 W v L p) (g : W.grownBy w5 v.ownBlock) (o : Own8 w5 base 5 v5 L5) :
    ES w base Bb A N c W0 (w5.setCell ⟨Bb, 0, none⟩ v5) v5 L5 p := by
  have t1 : (25 : TypeId) ≠ 5 := by decide
  have t2 : (3 : TypeId) ≠ 5 := by decide
  have t3 : (22 : TypeId) ≠ 5 := by decide
  have k1 := h.b.kept g (h.b.not_row t1 h.own)
  have k2 := h.d.kept g (h.d.not_row t2 h.own)
  have k3 := h.s.kept g (h.s.not_row t3 h.own)
  have k4 := h.n.kept g (h.n.not_row t2 h.own)
  have gs := grownBy_setCell' w5 Bb v5
  have hs : base ≤ W.heap.size := h.bel.size |> fun q => by have := h.bs; have := h.b.lt; omega
  refine ⟨k1.set v5, ?_, k2.kept gs (by intro e; injection e with e; omega), k3.kept gs (by intro e; injection e with e; omega), k4.kept gs (by intro e; injection e with e; omega), (Own8.grow (l := L) h.own (Nat.le_refl _) h.bel hs g).setCell (p := ⟨Bb, 0, none⟩) h.bs v5, (h.ko.trans (ko_own (l := L) h.own g)).trans (KeepsOthers.setCell _ _ _), h.bs⟩
  have o' : w5.ownsRow base 5 1 v5 L5.length (cells8 L5) := o
  exact o'.kept gs (.inr (k1.not_row t1 o').symm)
theorem ES.below {w : World} {base Bb : Nat} {A : Option Addr} {N c : Nat} {W0 W W' : World} {v : Value} {L : List UInt8} {p : Int} (h : ES w base Bb A N c W0 W v L p) (hb : Below W.heap.size W W') : ES w base Bb A N c W0 W' v L p := by
  have hs : base ≤ W.heap.size := by have := h.bs; have := h.b.lt; omega
  exact ⟨(hb.block _ h.b.lt).trans h.b, own_below h.own hb, (hb.block _ h.d.lt).trans h.d, (hb.block _ h.s.lt).trans h.s, (hb.block _ h.n.lt).trans h.n, h.bel.trans (hb.mono hs), h.ko.trans (ko_below hb), h.bs⟩
theorem ES.doc {w : World} {base Bb : Nat} {A : Option Addr} {N c : Nat} {W0 W : World} {v : Value} {L : List UInt8} {p : Int} (h : ES w base Bb A N c W0 W v L p) (q : Int) : ES w base Bb A N c W0 (W.setCell ⟨Bb + 1, 0, none⟩ (.int .i64 q)) v L q := by
  have gs := grownBy_setCell' W (Bb + 1) (.int .i64 q)
  have t2 : (3 : TypeId) ≠ 5 := by decide
  refine ⟨h.b.kept gs (by intro e; injection e with e; omega), h.own.kept gs (.inr (h.d.not_row t2 h.own).symm), h.d.set _, h.s.kept gs (by intro e; injection e with e; omega), h.n.kept gs (by intro e; injection e with e; omega), h.bel.setCell (p := ⟨Bb + 1, 0, none⟩) (by have := h.bs; show base ≤ Bb + 1; omega) _, h.ko.trans (KeepsOthers.setCell _ _ _), h.bs⟩
def EI (w : World) (base Bb : Nat) (A : Option Addr) (N c : Nat) (hs : List HI) (pre : List Nat) (W : World) : Prop :=
  (((∃ v, Boxed W Bb 25 v ∧ W.ownsRow base 5 1 v (enc N ++ eBs 0 (pre.map fun x => blk hs (bix N x))).length (cells8 (enc N ++ eBs 0 (pre.map fun x => blk hs (bix N x)))) ∧ True) ∧
    Boxed W (Bb + 1) 3 (.int .i64 (lastB 0 (pre.map fun x => blk hs (bix N x))))) ∧ (Boxed W (Bb + 1 + 1) 22 (.slice A N c) ∧ Boxed W (Bb + 1 + 1 + 1) 3 (.int .i64 4))) ∧ Below base w W
theorem EI.from (w : World) (base Bb : Nat) (A : Option Addr) (N c B : Nat) (hs : List HI) (h1 : base ≤ w.heap.size) (h2 : base ≤ B) : OwnFrom B (EI w base Bb A N c hs) :=
  OwnFrom.and (OwnFrom.and (OwnFrom.and (Own.from (holdsRow_own base Bb 25 5 1 (fun pre : List Nat => (enc N ++ eBs 0 (pre.map fun x => blk hs (bix N x))).length) (fun pre => cells8 (enc N ++ eBs 0 (pre.map fun x => blk hs (bix N x)))) (fun _ _ => True)) _)
    (Own.from (own_box (Bb + 1) 3 fun pre : List Nat => .int .i64 (lastB 0 (pre.map fun x => blk hs (bix N x)))) _))
    (OwnFrom.and (Own.from (own_box (Bb + 1 + 1) 22 fun _ : List Nat => .slice A N c) _) (Own.from (own_box (Bb + 1 + 1 + 1) 3 fun _ : List Nat => .int .i64 4) _))) (ownFrom_below h1 h2)
set_option maxHeartbeats 1000000 in
theorem encode_in (n : Nat) (hn : 3 ≤ n) (A : Option Addr) (N c : Nat) (hs : List HI) (HN : Hid (N = hs.length ∧ ∀ h ∈ hs, h.2.length ≤ 6000)) (hN : N ≤ 1100) (hNc : N ≤ c) (w : World) (hI : HS w w.heap.size A hs) (hr : Hid (rgt (-1) hs = true)) :
    CallsIn Fence.wide n Try.prog 16 #[.slice A N c] w fun e w' => ∃ v, e = .returned (.tuple #[v, .int .i64 0]) ∧ Own8 w' w.heap.size 5 v (eP hs) ∧ Below w.heap.size w w' := by
  have h1n : 1 ≤ n := by omega
  have HCS := Lib.hid hI
  clear hI
  have KR := Lib.hid (((callsIn_wide (n := n - 1)).2 (right_any A N c hs HN.out.1 (by omega) w HCS.out)))
  rw [hr.out] at KR
  refine callsIn_of_wp_marks Try.func16 rfl trivial ?_ rfl
  simp only [Try.ntmps16, List.size_toArray, List.length_cons, List.length_nil, Nat.reduceAdd, Nat.reduceSub, Array.replicate_succ, Array.replicate_zero, List.push_toArray, List.append_toArray, List.nil_append, List.cons_append]
  have hf1 : Fence.wide.fn 17 := trivial
  have hf2 : Fence.wide.fn 39 := trivial
  have hf3 : Fence.wide.fn 40 := trivial
  gi_wp2_with (gi_at_call 17; refine KR.out.mono ?_; rintro e w1 ⟨rfl, b1⟩)
  have HB1 := Lib.hid b1
  have hcv : IntKind.u64.wrap (N : Int) = (N : Int) := by rw [IntKind.wrap_u64]; omega
  clear b1 KR
  gi_wp2_with (first
    | (gi_at_call 39; refine ((callsIn_wide (n := n - 1)).2 (put_any (.slice none 0 0) [] w.heap.size N (by omega) w1 (Own8.nil _ _ _) HB1.out.size (by simp))).mono ?_; rintro e w2 ⟨v2, rfl, o2, g2, _⟩; obtain ⟨A2, c2, rfl, hc2, hm2, _, hob2⟩ := o2.form)
    | (gi_at_call 40; refine (chunk_in (n - 1) A N c _).mono ?_; rintro e w3 ⟨rfl, rfl⟩))
  have hg2 := g2.size
  have b2 : Below w.heap.size w w2 := HB1.out.grown g2 HB1.out.size (fun j ej => by simp [Value.ownBlock] at ej)
  have s2 := b2.size
  rw [List.nil_append] at o2
  obtain ⟨W3, hW3⟩ : ∃ W, (((w2.alloc (.cells #[.slice A2 (enc N).length c2] 25)).alloc (.cells #[.int .i64 0] 3)).alloc (.cells #[.slice A N c] 22)).alloc (.cells #[.int .i64 4] 3) = W := ⟨_, rfl⟩
  have bW3 : Below w2.heap.size w2 W3 := by rw [← hW3]; exact ((((Below.refl _ _).alloc (Nat.le_refl _) _).alloc (by simp) _).alloc (by simp; omega) _).alloc (by simp; omega) _
  have z3 : W3.heap.size = w2.heap.size + 4 := by rw [← hW3]; simp
  have xb : Boxed W3 w2.heap.size 25 (.slice A2 (enc N).length c2) := by rw [← hW3]; exact ((Boxed.new w2 _ _).alloc _).alloc _ |>.alloc _
  have xd : Boxed W3 (w2.heap.size + 1) 3 (.int .i64 0) := by
    rw [← hW3]
    have := ((Boxed.new (w2.alloc (.cells #[.slice A2 (enc N).length c2] 25)) 3 (.int .i64 0)).alloc (.cells #[.slice A N c] 22)).alloc (.cells #[.int .i64 4] 3)
    rwa [World.size_alloc] at this
  have xs : Boxed W3 (w2.heap.size + 1 + 1) 22 (.slice A N c) := by
    rw [← hW3]
    have := (Boxed.new ((w2.alloc (.cells #[.slice A2 (enc N).length c2] 25)).alloc (.cells #[.int .i64 0] 3)) 22 (.slice A N c)).alloc (.cells #[.int .i64 4] 3)
    rwa [World.size_alloc, World.size_alloc] at this
  have xn : Boxed W3 (w2.heap.size + 1 + 1 + 1) 3 (.int .i64 4) := by
    rw [← hW3]
    have := Boxed.new (((w2.alloc (.cells #[.slice A2 (enc N).length c2] 25)).alloc (.cells #[.int .i64 0] 3)).alloc (.cells #[.slice A N c] 22)) 3 (.int .i64 4)
    rwa [World.size_alloc, World.size_alloc, World.size_alloc] at this
  have hA : 0 < N → ∃ b o, A = some ⟨b, o, none⟩ := fun h => by
    obtain ⟨b, o, e, _⟩ := HCS.out (by rw [← HN.out.1]; exact h)
    exact ⟨b, o, e⟩
  have b3 : Below w.heap.size w W3 := b2.trans (bW3.mono s2)
  have HE0 : Hid (EI w w.heap.size w2.heap.size A N c hs [] W3) := by
    refine ⟨⟨⟨⟨_, xb, ?_, trivial⟩, xd⟩, xs, xn⟩, b3⟩
    show World.ownsRow _ _ _ _ _ (enc N ++ []).length (cells8 (enc N ++ []))
    rw [List.append_nil]
    exact o2.below bW3
  have HB3 := Lib.hid b3
  rw [hW3]
  refine wpIn_rangeFunc_ownG rfl h1n (gf := 62) (lb := #[.pointer (some ⟨w2.heap.size + 1 + 1, 0, none⟩), .pointer (some ⟨w2.heap.size + 1 + 1 + 1, 0, none⟩)]) rfl trivial (enters_of Try.func62 (by kernel_rfl) rfl)
    (chunk_stops (n - 1) (by omega) (w2.heap.size + 1 + 1) (w2.heap.size + 1 + 1 + 1) c N A hA hNc (by omega) W3 (by omega) (by omega) xs.cell xn.cell) (fun h k => ⟨k.1.trans h.1, k.2.trans h.2⟩) (fun W l o o' hl h1 _ _ => ⟨World.putObj_heap_other (by omega), World.putObj_heap_other (by omega)⟩) (Below.refl _ _) (fun _ => rfl)
    (EI w w.heap.size w2.heap.size A N c hs)
    (fun _ _ _ => False)
    (EI.from _ _ _ _ _ _ _ _ (Nat.le_refl _) b3.size)
    (fun _ _ _ _ _ hs _ _ => hs)
    HE0.out
    (fun x => { tmps := #[.slice A N c, undef, .slice none 0 0, .int .i64 0, .pointer (some ⟨w2.heap.size, 0, none⟩), .pointer (some ⟨w2.heap.size + 1, 0, none⟩), bval A N x, undef, .slice A N c, .bool true, .bool false, .slice A N c, .int .i64 N, .int .u64 N, .slice A2 (enc N).length c2, .slice A N c, .func (.func 62) #[] #[.pointer (some ⟨w2.heap.size + 1 + 1, 0, none⟩), .pointer (some ⟨w2.heap.size + 1 + 1 + 1, 0, none⟩)], bval A N x, undef, undef, undef, undef, undef, undef, undef, undef, undef, undef, undef, undef, undef, undef, undef, undef, undef, undef, undef, undef, undef], defers := [] }) ?assign ?body ?done ?stop
  case assign =>
    intro l x W K hK
    gi_wp2
    exact hK
  case body =>
    rintro l pre x W ⟨⟨⟨⟨v, hv, hrow, _⟩, hd⟩, hss, hnn⟩, hB⟩ hlt
    have hnb : 0 < nbl N := by omega
    obtain ⟨m1, m4⟩ := blen_pos N x hnb
    have hbl := blk_len hs N x HN.out.1
    obtain ⟨bs, hbs⟩ : ∃ bs, bs = blk hs (bix N x) := ⟨_, rfl⟩
    have hbz : ∀ h ∈ bs, h.2.length ≤ 6000 := fun h hh => HN.out.2 h (by rw [hbs] at hh; unfold Proofs.Ytjigaoclngfcaaa.blk at hh; exact List.mem_of_mem_drop (List.mem_of_mem_take hh))
    have hS := (HCS.out.blk N x HN.out.1).below hB
    obtain ⟨m, hm⟩ : ∃ m, m = blen N x := ⟨_, rfl⟩
    rw [← hbs] at hbl hS
    rw [← hm] at m1 m4 hbl
    obtain ⟨b, o, hbad, hblt, hcs⟩ := hS (by omega)
    have hbv : bval A N x = .slice (some ⟨b, o, none⟩) m m := by unfold bval; rw [hbad, ← hm]
    have hcl := (hcs (m - 1) (by omega)).1
    have hdl := docOf_last bs (by omega)
    obtain ⟨mm, hmm⟩ : ∃ mm, m = mm + 1 := ⟨m - 1, by omega⟩
    subst hmm
    have hdd : bs[mm + 1 - 1]'(by omega) = bs[bs.length - 1]'(by omega) := by congr 1; omega
    rw [hdd, ← hdl, Nat.add_sub_cancel] at hcl
    have HSW : Hid (HS w w.heap.size (some ⟨b, o, none⟩) bs) := by
      have h := HCS.out.blk N x HN.out.1
      rw [← hbs, hbad] at h
      exact h
    obtain ⟨p, hp⟩ : ∃ p, p = lastB 0 (pre.map fun x => blk hs (bix N x)) := ⟨_, rfl⟩
    obtain ⟨L, hL⟩ : ∃ L, L = enc N ++ eBs 0 (pre.map fun x => blk hs (bix N x)) := ⟨_, rfl⟩
    rw [← hp] at hd
    rw [← hL] at hrow
    have hLn : L.length ≤ 100000000 := by
      have g1 := eBs_le (pre.map fun x => blk hs (bix N x)) 0 (fun b hb => by
        obtain ⟨y, _, rfl⟩ := List.mem_map.1 hb
        exact ⟨by unfold Proofs.Ytjigaoclngfcaaa.blk; rw [List.length_take]; omega, fun z hz => HN.out.2 z (by unfold Proofs.Ytjigaoclngfcaaa.blk at hz; exact List.mem_of_mem_drop (List.mem_of_mem_take hz))⟩)
      have g2 := glen_le10 N (by omega)
      unfold glen at g2
      have g3 : nbl N ≤ 276 := by unfold nbl; omega
      rw [List.length_map] at g1
      rw [hL, List.length_append]
      have g4 : pre.length * 240200 ≤ 276 * 240200 := Nat.mul_le_mul (by omega) (by decide)
      omega
    have ho : Own8 W w.heap.size 5 v L := hrow
    obtain ⟨Av, cv, rfl, hcv, hmv, _, hob⟩ := ho.form
    obtain ⟨d1, hd1⟩ : ∃ d1, d1 = docOf 0 bs := ⟨_, rfl⟩
    rw [← hd1] at hcl
    obtain ⟨qn, hqn⟩ : ∃ qn, qn = df d1 p := ⟨_, rfl⟩
    have hq : IntKind.u64.wrap (wrap64 (d1 - p)) = (qn : Int) := by rw [hqn]; exact df_wrap d1 p
    have hq64 : qn < 18446744073709551616 := by rw [hqn]; exact df_lt _ _
    have hmi : ((mm + 1 : Nat) : Int) - 1 = (mm : Int) := by omega
    have hnr := hv.not_row (show (25 : TypeId) ≠ 5 by decide) hrow
    have hc := hv.cell
    have hdc := hd.cell
    have hf2 : (Fence.wide.inRound l).fn 39 := trivial
    have hbase : w.heap.size ≤ W.heap.size := hB.size
    have HES : Hid (ES w w.heap.size w2.heap.size A N c W W (.slice Av L.length cv) L p) := ⟨hv, hrow, hd, hss, hnn, hB, KeepsOthers.refl W, s2⟩
    have HFIN : Hid (∀ Z v', ES w w.heap.size w2.heap.size A N c W Z v' (L ++ eB1 p bs) d1 → KeepsFrom W3.heap.size W Z ∧ KB (w2.heap.size + 1 + 1) (w2.heap.size + 1 + 1 + 1) W Z ∧ EI w w.heap.size w2.heap.size A N c hs (pre ++ [x]) Z) := fun Z v' h => by
      refine ⟨h.ko.from _, ⟨h.s.trans hss.symm, h.n.trans hnn.symm⟩, ?_⟩
      unfold EI
      rw [List.map_append, List.map_cons, List.map_nil, eBs_snoc, ← List.append_assoc, ← hL, ← hp, ← hbs]
      have e : lastB 0 ((pre.map fun x => blk hs (bix N x)) ++ [bs]) = d1 := by
        unfold lastB
        rw [List.map_append, List.map_cons, List.map_nil, List.getLast?_concat, hd1]
        rfl
      rw [e]
      exact ⟨⟨⟨⟨v', h.b, h.own, trivial⟩, h.d⟩, h.s, h.n⟩, h.bel⟩
    have HB1' : Hid (eB1 p bs = enc qn ++ (enc (eBl p bs).length ++ eBl p bs) ∧ (eBl p bs).length ≤ 240100) := ⟨by unfold eB1; rw [← hd1, ← hqn], (eB1_le p bs (by omega) hbz).2⟩
    have HBZ := Lib.hid hbz
    have HBL := Lib.hid hbl
    rw [hbv]
    clear hbs hcs hdl hdd hbv hp hL hm hbad hd1 hqn hbz hbl hss hnn
    have hdp : Fence.wide.depth.isSome = true → 1 ≤ n - 1 - 1 := fun h => by cases h
    gi_wp2_with (refine ⟨hdp, ?_⟩; gi_at_call 39; refine (in_round l _ (put_any (.slice Av L.length cv) L w.heap.size qn hq64 W ho hbase (by omega))).mono ?_; rintro e w5 ⟨v5, rfl, o5, g5, _⟩; obtain ⟨A5, c5, rfl, hcc5, hm5, _, _⟩ := o5.form; have k5 := hv.kept g5 hnr; have x5 := k5.cell; have y5 := k5.frozen)
    have hE5 := HES.out.put g5 o5
    have hln : (L ++ enc qn).length = L.length + (enc qn).length := List.length_append
    have hqn10 : (enc qn).length ≤ 10 := glen_le10 qn hq64
    rw [hln] at hE5 hcc5
    obtain ⟨n5, hn5⟩ : ∃ n5, n5 = L.length + (enc qn).length := ⟨_, rfl⟩
    rw [← hn5] at hE5 ⊢
    obtain ⟨X, hX⟩ : ∃ X, w5.setCell ⟨w2.heap.size, 0, none⟩ (.slice A5 n5 c5) = X := ⟨_, rfl⟩
    rw [hX] at hE5 ⊢
    have HE5 := Lib.hid (hE5.below (Below.refl _ _).drew)
    have z1 := HE5.out.b.cell
    have z3' := HE5.out.d.cell
    obtain ⟨sb, hsb⟩ : ∃ sb, sb = (⟨(eBl p bs).toArray⟩ : ByteArray) := ⟨_, rfl⟩
    have hsz : sb.size = (eBl p bs).length := by rw [hsb]; show (eBl p bs).toArray.size = _; simp
    have hsd : sb.data.toList = eBl p bs := by rw [hsb]
    have KL : Hid (Calls Try.prog 42 #[.slice (some ⟨b, o, none⟩) (mm + 1) (mm + 1), .int .i64 p] X.drew fun e w6 => ∃ A6 n6 c6, e = .returned (.slice A6 n6 c6) ∧ (convert 25 9 (.slice A6 n6 c6)).run Try.prog w6 = .ok (.string sb) w6 ∧ ES w w.heap.size w2.heap.size A N c W w6 (.slice A5 n5 c5) (L ++ enc qn) p) :=
      (lay_any (some ⟨b, o, none⟩) (mm + 1) (mm + 1) bs p HBL.out.symm (by omega) HBZ X.drew ((HSW.out.below HE5.out.bel).more HE5.out.bel.size)).mono fun e w6 ⟨v6, e1, o6, b6⟩ => by
        obtain ⟨A6, c6, rfl, _, _, hbs6, _⟩ := o6.form
        exact ⟨A6, _, c6, e1, by rw [hsb]; exact hbs6.conv _ _ rfl, HE5.out.below b6⟩
    have KT : Hid (∀ W6, ES w w.heap.size w2.heap.size A N c W W6 (.slice A5 n5 c5) (L ++ enc qn) p → Calls Try.prog 41 #[.slice A5 n5 c5, .string sb] W6 fun e w7 => ∃ A7 n7 c7, e = .returned (.slice A7 n7 c7) ∧ w7.cell? ⟨w2.heap.size, 0, none⟩ = some (.slice A5 n5 c5) ∧ w7.frozen? ⟨w2.heap.size, 0, none⟩ = false ∧ ES w w.heap.size w2.heap.size A N c W (w7.setCell ⟨w2.heap.size, 0, none⟩ (.slice A7 n7 c7)) (.slice A7 n7 c7) (L ++ eB1 p bs) p) := fun W6 h =>
      (text_any (.slice A5 n5 c5) (L ++ enc qn) w.heap.size sb (by rw [hsz]; have := HB1'.out.2; omega) W6 h.own h.bel.size (by rw [List.length_append]; omega)).mono fun e w7 ⟨v7, e1, o7, g7, _⟩ => by
        rw [hsz, hsd, List.append_assoc, ← HB1'.out.1] at o7
        have k7 := h.b.kept g7 (h.b.not_row (show (25 : TypeId) ≠ 5 by decide) h.own)
        have hE7 := h.put g7 o7
        obtain ⟨A7, c7, rfl, _, _, _, _⟩ := o7.form
        exact ⟨A7, _, c7, e1, k7.cell, k7.frozen, hE7⟩
    have hf3 : (Fence.wide.inRound l).fn 41 := trivial
    have hf4 : (Fence.wide.inRound l).fn 42 := trivial
    clear hE5 hX hsb hsz hsd HE5 hn5 hln hcc5 hcl k5 x5 y5 o5 g5 hd hdc hrow hv ho hc hnr
    gi_region_with (first
      | (refine ⟨trivial, hdp, ?_⟩; gi_at_call 42; with_reducible refine (in_round l _ KL.out).mono ?_; rintro e w6 ⟨A6, n6, c6, rfl, hcv6, hE6⟩; have y1 := hE6.b.cell)
      | (refine ⟨trivial, hdp, ?_⟩; gi_at_call 41; with_reducible refine (in_round l _ (KT.out _ hE6)).mono ?_; rintro e w7 ⟨A7, n7, c7, rfl, y3, y4, hE7⟩))
    all_goals
      have u1 := hE7.d.cell
      have u2 := hE7.d.frozen
      gi_wp2
      exact HFIN.out _ _ (hE7.doc d1)
  case done =>
    rintro D ys W hD rfl ⟨⟨⟨⟨v, hv, hrow, _⟩, _⟩, _⟩, hB⟩ hK
    have hc := hv.cell
    have hE : eP hs = enc N ++ eBs 0 ((List.range (nbl N)).map fun x => blk hs (bix N x)) := by
      unfold eP
      rw [← HN.out.1]
      congr 2
      exact List.map_congr_left fun x hx => by rw [bix_eq N x (List.mem_range.1 hx)]
    have HE := Lib.hid hE
    have HRW := Lib.hid hrow
    clear hE hrow
    gi_wp2
    refine ⟨by simp, .inl ⟨_, _, rfl, run_takeDeferred hK, ?_⟩⟩
    refine ⟨.tuple #[v, .int .i64 0], by simp [results, Try.results16, go_sem], v, rfl, ?_, hB.trans (belowK_b (w := W3) (by have := HB3.out.size; omega) W D _ _ hD hK rfl rfl)⟩
    rw [HE.out]
    exact ownsRow_putObj HRW.out _ hK rfl
  case stop =>
    rintro D c pre W _ _ h _
    exact h.elim
end Go.Proofs.Ytjigaoclngfcaaa
