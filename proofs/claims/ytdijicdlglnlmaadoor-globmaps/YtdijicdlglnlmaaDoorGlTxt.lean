/- The laws' own 'text': parts as a text. -/
import Derived.Test.YtdijicdlglnlmaaDoorGlLaw
import Derived.Test.YtdijicdlglnlmaaDoorGlErr
import Derived.Lib.SlBytesConst
namespace Go.Proofs.YtdijicdlglnlmaaDoor
open Go.RowKit
set_option maxRecDepth 100000

/-- A slice of the laws' parts that came in. -/
def IP (w : World) (B : Nat) (A : Option Addr) (z : List LP) : Prop :=
  0 < z.length → ∃ b o, A = some ⟨b, o, none⟩ ∧ b < B ∧ ∀ k (h : k < z.length), w.cell? ⟨b, o + k * 4, none⟩ = some (.int .i64 z[k].1) ∧ w.cell? ⟨b, o + k * 4 + 1, none⟩ = some (.int .i32 z[k].2.1) ∧ w.cell? ⟨b, o + k * 4 + 2, none⟩ = some (.int .i64 z[k].2.2.1) ∧ w.cell? ⟨b, o + k * 4 + 3, none⟩ = some (.int .i64 z[k].2.2.2)
theorem info_Part : (Tryd.prog.info? 31).map (fun i => (i.zero, i.size, i.bytes)) = some (some (.agg #[.int .i64 0, .int .i32 0, .int .i64 0, .int .i64 0]), 4, 32) := by kernel_rfl
theorem one_cellQ (a b c d : Int) : ∀ u ∈ ([.int .i64 a, .int .i32 b, .int .i64 c, .int .i64 d] : List Value), u.oneCell' = true := by
  intro u hu
  simp only [List.mem_cons, List.not_mem_nil, or_false] at hu
  rcases hu with rfl | rfl | rfl | rfl <;> rfl
/-- append of one part that lies in a new literal. -/
theorem wpList_appendQ {ops : Array Oper} {rest : List Oper} {o : Oper} {a : Act} {Q : Exit → Act → World → Prop} (wr : World) (hgd : o.guard = none) (s x : Operand)
    (ho : o.op = .call { callee := .builtin .append, args := #[s, x], argTypes := #[22, 22] })
    (base : Nat) (v : Value) (n : Nat) (xs : List Value) (p0 p1 p2 p3 : Int) (H : Nat) (hH : wr.heap.size = H) (hs : a.eval s = v) (hx : a.eval x = .slice (some ⟨H, 0, none⟩) 1 1) (hown : wr.ownsRow base 31 4 v n xs) (hbase : base ≤ wr.heap.size) (hn : n ≤ 1000000)
    (h : ∀ v' w', w'.ownsRow base 31 4 v' (n + 1) (xs ++ [.int .i64 p0, .int .i32 p1, .int .i64 p2, .int .i64 p3]) → (∀ w0 B, B ≤ base → Below B w0 wr → Below B w0 w') → wpList Tryd.prog ops Q rest (a.put o.dst v') w') :
    wpList Tryd.prog ops Q (o :: rest) a (wr.alloc (.cells #[.int .i64 p0, .int .i32 p1, .int .i64 p2, .int .i64 p3] 31)) := by
  subst hH
  obtain ⟨i0, hi, hz0, hz1, hz2⟩ := info_parts info_Part
  have hownA : (wr.alloc (.cells #[.int .i64 p0, .int .i32 p1, .int .i64 p2, .int .i64 p3] 31)).ownsRow base 31 4 v n xs := own_below hown ((Below.refl _ _).alloc (Nat.le_refl _) _)
  have hbaseA : base ≤ (wr.alloc (.cells #[.int .i64 p0, .int .i32 p1, .int .i64 p2, .int .i64 p3] 31)).heap.size := by simp; omega
  refine wpList_append_own_at _ hgd s x 22 ho base 31 i0 _ 4 32 Tryd.underlying22 hi hz0 hz1 hz2 rfl (by omega) v n xs hs hownA ⟨wr.heap.size, 0, none⟩ 1 1 [.int .i64 p0, .int .i32 p1, .int .i64 p2, .int .i64 p3] hx rfl (new_cells wr _ _ _) (one_cellQ p0 p1 p2 p3) (by unfold maxLen; omega) (by omega) hbaseA ?_
  intro v' w' hown' hg _ _
  exact h v' w' hown' fun w0 B hB hbel => own_grow hownA hB (hbel.alloc (Nat.le_trans hB hbase) _) hbaseA hg
theorem and_7 (b : Int) : ∃ n : Nat, bits .and .i64 b 7 = (n : Int) ∧ n ≤ 7 := by
  have h : (BitVec.ofInt 64 b &&& BitVec.ofInt 64 7).toNat ≤ 7 := by
    rw [BitVec.toNat_and]
    exact Nat.le_trans Nat.and_le_right (by decide)
  refine ⟨(BitVec.ofInt 64 b &&& BitVec.ofInt 64 7).toNat, ?_, h⟩
  show IntKind.i64.wrap ((BitVec.ofInt 64 b &&& BitVec.ofInt 64 7).toNat : Int) = _
  rw [IntKind.wrap_i64]
  omega
theorem qCells_snoc (ts : List (LP × List UInt8 × GP)) (x : LP × List UInt8 × GP) : qCells (ts ++ [x]) = qCells ts ++ [.int .i64 x.1.1, .int .i32 x.1.2.1, .int .i64 x.1.2.2.1, .int .i64 x.1.2.2.2] := by simp [qCells]
theorem txts_snoc (ts : List (LP × List UInt8 × GP)) (x : LP × List UInt8 × GP) : txts (ts ++ [x]) = txts ts ++ x.2.1 := by simp [txts]
theorem allNQ_snoc {ts : List (LP × List UInt8 × GP)} {x : LP × List UInt8 × GP} (h : allNQ ts) (hx : NQ x) : allNQ (ts ++ [x]) := fun y hy => by
  rcases List.mem_append.1 hy with hy | hy
  · exact h y hy
  · rw [List.mem_singleton.1 hy]; exact hx

set_option maxHeartbeats 8000000 in
theorem text_any (A : Option Addr) (n c : Nat) (z : List LP) (w : World) (HN : Hid (n = z.length)) (hn : n ≤ 100) (hz : IP w w.heap.size A z) :
    Calls Tryd.prog 9 #[.slice A n c] w fun e w' => ∃ v ts, e = .returned (.tuple #[.string (strOf (txts ts)), v]) ∧ ts.length = n ∧ allNQ ts ∧ w'.ownsRow w.heap.size 31 4 v n (qCells ts) ∧ Below w.heap.size w w' := by
  go_enter Tryd.func9, Tryd.ntmps9
  go_wp2_with fail
  go_loopw [4, 5, 14] (fun s v i wr => ∃ (k : Nat) (ts : List (LP × List UInt8 × GP)), k ≤ n ∧ i = .int .i64 k ∧ s = .string (strOf (txts ts)) ∧ Hid (ts.length = k) ∧ Hid (allNQ ts) ∧ wr.ownsRow w.heap.size 31 4 v k (qCells ts) ∧ Below w.heap.size w wr) (fun _ _ i _ => n - (intOf i).toNat)
  case atStart => exact ⟨0, [], Nat.zero_le _, rfl, rfl, rfl, fun _ h => by simp at h, own_lit w _ 4 _ rfl, (Below.refl _ _).alloc (Nat.le_refl _) _⟩
  case round =>
    obtain ⟨k, ts, hk, rfl, rfl, HL, HA, hown, hbel⟩ := hrel
    have hwz : w.heap.size ≤ wr.heap.size := hbel.size
    by_cases hlt : k < n
    · have hkl : k < z.length := by rw [← HN.out]; exact hlt
      obtain ⟨pb, po, rfl, hpb, hcell⟩ := hz (by omega)
      obtain ⟨q0, q1, q2, q3⟩ := hcell k hkl
      have m0 : wr.cell? ⟨pb, po + k * 4, none⟩ = _ := (hbel.cell (p := ⟨pb, po + k * 4, none⟩) hpb).trans q0
      have m1 : wr.cell? ⟨pb, po + k * 4 + 1, none⟩ = _ := (hbel.cell (p := ⟨pb, po + k * 4 + 1, none⟩) hpb).trans q1
      have m2 : wr.cell? ⟨pb, po + k * 4 + 2, none⟩ = _ := (hbel.cell (p := ⟨pb, po + k * 4 + 2, none⟩) hpb).trans q2
      have m3 : wr.cell? ⟨pb, po + k * 4 + 3, none⟩ = _ := (hbel.cell (p := ⟨pb, po + k * 4 + 3, none⟩) hpb).trans q3
      clear q0 q1 q2 q3 hcell
      generalize z[k] = p at *
      obtain ⟨K, sg, lo, hi⟩ := p
      simp only at m0 m1 m2 m3
      obtain ⟨m, hm, hm6⟩ : ∃ m : Nat, (IntKind.u64.wrap K).tmod 6 = (m : Int) ∧ m < 6 := by
        have h1 : 0 ≤ IntKind.u64.wrap K := by simp [IntKind.wrap, IntKind.signed, IntKind.bits]; omega
        refine ⟨((IntKind.u64.wrap K).tmod 6).toNat, ?_, ?_⟩
        · have := Int.tmod_nonneg 6 h1; omega
        · have := Int.tmod_lt_of_pos (IntKind.u64.wrap K) (show (0 : Int) < 6 by omega); have := Int.tmod_nonneg 6 h1; omega
      have htl := txts_len ts HA.out
      have hzt : (strOf (txts ts)).size ≤ 1000 := by rw [size8]; have := HL.out; omega
      have HAD := fun (t : List UInt8) => Lib.hid (add8 (txts ts) t)
      have hownP := fun (o1 o2 : Obj) => own_below hown (((Below.refl wr.heap.size wr).alloc (Nat.le_refl _) o1).alloc (by simp) o2)
      have hbelP := fun (o1 o2 : Obj) => (hbel.alloc hbel.size o1).alloc (by have := hbel.size; simp; omega) o2
      rcases (by omega : m = 0 ∨ m = 1 ∨ m = 2 ∨ m = 3 ∨ m = 4 ∨ m = 5) with rfl | rfl | rfl | rfl | rfl | rfl
      · replace hm : (IntKind.u64.wrap K).tmod 6 = 0 := hm
        have l0 : (txts ts).length ≤ 1000 := by rw [← size8]; exact hzt
        obtain ⟨S1, e1, z1⟩ : ∃ S, strOf (txts ts) ++ (⟨#[92]⟩ : ByteArray) = strOf S ∧ S = txts ts ++ [92] := ⟨_, add8 _ [92], rfl⟩
        have l1 : (strOf S1).size ≤ 1100 := by rw [size8, z1, List.length_append]; simp; omega
        by_cases hsg : 0 ≤ sg ∧ isSign sg.toNat
        · obtain ⟨r, rfl⟩ := Int.eq_ofNat_of_zero_le hsg.1
          have hr : isSign r := by simpa using hsg.2
          have HQ : Hid (NQ ((0, (r : Int), 1, 1), 92 :: encS r, sgn r)) := .inl ⟨r, hr, rfl⟩
          obtain ⟨S2, e2, z2⟩ : ∃ S, strOf S1 ++ strOf (encS r) = strOf S ∧ S = S1 ++ encS r := ⟨_, add8 _ _, rfl⟩
          have HS2 : Hid (S2 = txts ts ++ 92 :: encS r) := by show _ = _; rw [z2, z1]; simp
          have l2 : (strOf (encS r)).size ≤ 4 := by rw [size8]; exact (encS_len r).2
          have h1 := (encS_len r).1
          obtain ⟨W2, hW2⟩ : ∃ W2, W2 = (wr.alloc (.cells #[.int .i64 K, .int .i32 (r : Int), .int .i64 lo, .int .i64 hi] 31)).alloc (.cells #[.int .i64 0, .int .i32 0, .int .i64 1, .int .i64 1] 31) := ⟨_, rfl⟩
          have hW2s : W2.heap.size = wr.heap.size + 2 := by rw [hW2]; simp
          have HP := Lib.hid (uput_any (.slice none 0 0) [] W2.heap.size r hr W2 (Own8.nil _ _ _) (Nat.le_refl _) (by simp))
          have c0 : W2.heap[wr.heap.size]? = some (.cells #[.int .i64 K, .int .i32 (r : Int), .int .i64 lo, .int .i64 hi] 31) := by
            rw [hW2, Below.heap_alloc _ _ _ (by simp)]; exact heap_alloc_new _ _
          have c1 : W2.heap[wr.heap.size + 1]? = some (.cells #[.int .i64 0, .int .i32 0, .int .i64 1, .int .i64 1] 31) := by
            have := heap_alloc_new (wr.alloc (.cells #[.int .i64 K, .int .i32 (r : Int), .int .i64 lo, .int .i64 hi] 31)) (.cells #[.int .i64 0, .int .i32 0, .int .i64 1, .int .i64 1] 31)
            rw [← hW2] at this
            simpa using this
          have hown2 : W2.ownsRow w.heap.size 31 4 u5 k (qCells ts) := by rw [hW2]; exact hownP _ _
          have hbel2 : Below w.heap.size w W2 := by rw [hW2]; exact hbelP _ _
          have HOB : Hid (∀ b, u5.ownBlock = some b → b < wr.heap.size) := fun b e => by
            obtain ⟨_, _, _, _, _, _, hb⟩ := own_form hown
            exact (hb b e).2
          clear HAD z1 z2 hsg hr hownP hbelP hown l0
          go_wp2_with fail
          rw [← hW2]
          refine HP.out.mono ?_
          rintro e w5 ⟨v5, rfl, hown5, hg5⟩
          obtain ⟨A3, c3, e3, _, _, hbs, hob5⟩ := hown5.form
          rw [List.nil_append] at e3 hbs
          have hb5 : Below W2.heap.size W2 w5 := below_of_grown hg5 (fun k h => by cases h)
          have d0 : w5.cell? ⟨wr.heap.size, 1, none⟩ = some (.int .i32 (r : Int)) := by rw [cell_of_row _ _ _ _ _ _ ((hb5.block _ (by omega)).trans c0)]; rfl
          have d1 : w5.heap[wr.heap.size + 1]? = some (.cells #[.int .i64 0, .int .i32 0, .int .i64 1, .int .i64 1] 31) := (hb5.block _ (by omega)).trans c1
          have d2 : w5.cell? ⟨wr.heap.size + 1, 1, none⟩ = some (.int .i32 0) := by rw [cell_of_row _ _ _ _ _ _ d1]; rfl
          have d3 : w5.frozen? ⟨wr.heap.size + 1, 1, none⟩ = false := by simp only [World.frozen?, d1]; simp
          obtain ⟨w6, hw6⟩ : ∃ w6, w6 = w5.setCell ⟨wr.heap.size + 1, 1, none⟩ (.int .i32 (r : Int)) := ⟨_, rfl⟩
          have f1 : w6.heap[wr.heap.size + 1]? = some (.cells #[.int .i64 0, .int .i32 (r : Int), .int .i64 1, .int .i64 1] 31) := by rw [hw6, heap_setCell_same w5 (wr.heap.size + 1) 1 _ _ _ d1]; rfl
          have g0 : w6.cell? ⟨wr.heap.size + 1, 0, none⟩ = some (.int .i64 0) := by rw [cell_of_row _ _ _ _ _ _ f1]; rfl
          have g1 : w6.cell? ⟨wr.heap.size + 1, 1, none⟩ = some (.int .i32 (r : Int)) := by rw [cell_of_row _ _ _ _ _ _ f1]; rfl
          have g2 : w6.cell? ⟨wr.heap.size + 1, 2, none⟩ = some (.int .i64 1) := by rw [cell_of_row _ _ _ _ _ _ f1]; rfl
          have g3 : w6.cell? ⟨wr.heap.size + 1, 3, none⟩ = some (.int .i64 1) := by rw [cell_of_row _ _ _ _ _ _ f1]; rfl
          have hbs6 : BS w6 w6.heap.size A3 (encS r) := fun hp => by
            obtain ⟨bb, bo, eA, hbb, hcc⟩ := hbs hp
            refine ⟨bb, bo, eA, by rw [hw6]; simpa using hbb, fun j hj => ?_⟩
            have hge : W2.heap.size ≤ bb := (hob5 bb (by rw [e3, eA]; rfl)).1
            rw [hw6, World.cell?_of_block (Below.heap_setCell w5 ⟨wr.heap.size + 1, 1, none⟩ _ bb (by show bb ≠ wr.heap.size + 1; omega))]
            exact hcc j hj
          have hcv : (convert 32 9 (.slice A3 (encS r).length c3)).run Tryd.prog w6 = .ok (.string (strOf (encS r))) w6 := hbs6.conv (encS r).length c3 rfl
          have hown6 : w6.ownsRow w.heap.size 31 4 u5 k (qCells ts) := by
            rw [hw6]
            refine own_far (own_below hown2 hb5) (fun b e => ?_) _
            have := HOB.out b e
            show b ≠ wr.heap.size + 1
            omega
          have hbel6 : Below w.heap.size w w6 := by rw [hw6]; exact (hbel2.trans (hb5.mono hbel2.size)).setCell (by show w.heap.size ≤ wr.heap.size + 1; omega) _
          have hw6s : wr.heap.size + 2 ≤ w6.heap.size := by rw [hw6]; have := hb5.size; simp; omega
          subst e3
          have hw6' := hw6.symm
          have hd : (((encS r).length : Int) == 0) = false := beq_eq_false_iff_ne.2 (by omega)
          clear hw6 hbs6 hbs hown5 hg5 hb5 d1 f1 c0 c1 hown2 hbel2 HP hob5 hW2
          generalize strOf (encS r) = es at *
          generalize hel : (encS r).length = el at *
          clear hel
          go_wp2_with (first
            | (at_builtin
               refine wpList_appendQ _ rfl (.tmp 88) (.tmp 90) rfl w.heap.size _ k (qCells ts) 0 (r : Int) 1 1 w6.heap.size rfl rfl rfl hown6 (by omega) (by omega) ?_
               intro v4 w4 hown4 hkeep4))
          exact ⟨⟨k + 1, ts ++ [((0, (r : Int), 1, 1), 92 :: encS r, sgn r)], by omega, by go_num, by rw [txts_snoc, ← HS2.out], by show (_ : Nat) = _; rw [List.length_append, HL.out]; rfl, allNQ_snoc HA.out HQ.out, by rw [qCells_snoc]; exact hown4, hkeep4 _ _ (Nat.le_refl _) hbel6⟩, by simp [intOf]; omega⟩
        · have hb : signB sg = false := by
            unfold signB
            refine decide_eq_false (fun h => hsg ⟨h.1, ?_⟩)
            unfold isSign
            omega
          have HP := Lib.hid (uput_bad (.slice none 0 0) sg hb)
          have HQ : Hid (NQ ((0, ((97 : Nat) : Int), 1, 1), 92 :: encS 97, sgn 97)) := .inl ⟨97, by unfold isSign; omega, rfl⟩
          obtain ⟨S2, e2, z2⟩ : ∃ S, strOf S1 ++ (⟨#[97]⟩ : ByteArray) = strOf S ∧ S = S1 ++ [97] := ⟨_, add8 _ [97], rfl⟩
          have HS2 : Hid (S2 = txts ts ++ 92 :: encS 97) := by show _ = _; rw [z2, z1]; simp [encS]
          have hcv : ∀ o1 o2 : Obj, (convert 32 9 (.slice (some ⟨wr.heap.size + 2, 0, none⟩) 1 1)).run Tryd.prog (((wr.alloc o1).alloc o2).alloc (.cells #[.int .u8 97] 5 (1, 2))) = .ok (.string ⟨#[97]⟩) (((wr.alloc o1).alloc o2).alloc (.cells #[.int .u8 97] 5 (1, 2))) := fun o1 o2 => by
            have hbs : BS (((wr.alloc o1).alloc o2).alloc (.cells #[.int .u8 97] 5 (1, 2))) (wr.heap.size + 3) (some ⟨wr.heap.size + 2, 0, none⟩) [97] := fun _ => by
              refine ⟨wr.heap.size + 2, 0, rfl, by omega, fun j hj => ?_⟩
              have hj0 : j = 0 := by simpa using hj
              subst hj0
              have := World.cell?_alloc_mark ((wr.alloc o1).alloc o2) #[.int .u8 97] 5 (1, 2) 0
              rw [show ((wr.alloc o1).alloc o2).heap.size = wr.heap.size + 2 by simp] at this
              rw [Nat.zero_add, this, at8_eq _ 0 (by simp)]
              rfl
            exact hbs.conv 1 1 rfl
          have hcv2 : ∀ o1 o2 : Obj, (convert 32 9 (.slice (some ⟨wr.heap.size + 1 + 1, 0, none⟩) 1 1)).run Tryd.prog (((wr.alloc o1).alloc o2).alloc (.cells #[.int .u8 97] 5 (1, 2))) = .ok (.string ⟨#[97]⟩) (((wr.alloc o1).alloc o2).alloc (.cells #[.int .u8 97] 5 (1, 2))) := hcv
          have hidc : ∀ o1 o2 : Obj, (convert 32 32 (.slice (some ⟨wr.heap.size + 1 + 1, 0, none⟩) 1 1)).run Tryd.prog (((wr.alloc o1).alloc o2).alloc (.cells #[.int .u8 97] 5)) = .ok (.slice (some ⟨wr.heap.size + 1 + 1, 0, none⟩) 1 1) (((wr.alloc o1).alloc o2).alloc (.cells #[.int .u8 97] 5 (1, 2))) := fun o1 o2 => by
            have := Lib.run_convert_bytes_const (P := Tryd.prog) ((wr.alloc o1).alloc o2) 32 5 #[.int .u8 97] 1 1 Tryd.underlying32 Tryd.underlying5
            rw [show ((wr.alloc o1).alloc o2).heap.size = wr.heap.size + 1 + 1 by simp] at this
            exact this
          have hownR := fun (o1 o2 o3 : Obj) => own_below (hownP o1 o2) ((Below.refl ((wr.alloc o1).alloc o2).heap.size _).alloc (Nat.le_refl _) o3)
          have hbelR := fun (o1 o2 o3 : Obj) => (hbelP o1 o2).alloc (by have := hbel.size; simp; omega) o3
          clear HAD z1 z2 hsg hb l0
          go_wp2_with fail
          refine (HP.out _).mono ?_
          rintro e w5 ⟨rfl, rfl⟩
          go_wp2_with (first
            | (at_builtin
               refine wpList_appendQ _ rfl (.tmp 88) (.tmp 90) rfl w.heap.size _ k (qCells ts) 0 97 1 1 (wr.heap.size + 3) (by simp) rfl rfl (hownR _ _ _) (by simp; omega) (by omega) ?_
               intro v4 w4 hown4 hkeep4))
          exact ⟨⟨k + 1, ts ++ [((0, ((97 : Nat) : Int), 1, 1), 92 :: encS 97, sgn 97)], by omega, by go_num, by rw [txts_snoc, ← HS2.out], by show (_ : Nat) = _; rw [List.length_append, HL.out]; rfl, allNQ_snoc HA.out HQ.out, by rw [qCells_snoc]; exact hown4, hkeep4 _ _ (Nat.le_refl _) (hbelR _ _ _)⟩, by simp [intOf]; omega⟩
      · replace hm : (IntKind.u64.wrap K).tmod 6 = 1 := hm
        have HT := HAD [46]
        have HQ : Hid (NQ ((1, 0, 1, 1), [46], (true, 0, 1, 1))) := .inr (.inl rfl)
        clear HAD
        go_wp2_with (first
          | (at_builtin
             refine wpList_appendQ _ rfl (.tmp 88) (.tmp 90) rfl w.heap.size _ k (qCells ts) 1 0 1 1 (wr.heap.size + 2) (by simp) rfl rfl (hownP _ _) (by simp; omega) (by omega) ?_
             intro v4 w4 hown4 hkeep4))
        exact ⟨⟨k + 1, ts ++ [((1, 0, 1, 1), [46], (true, 0, 1, 1))], by omega, by go_num, by rw [txts_snoc, ← HT.out], by show (_ : Nat) = _; rw [List.length_append, HL.out]; rfl, allNQ_snoc HA.out HQ.out, by rw [qCells_snoc]; exact hown4, hkeep4 _ _ (Nat.le_refl _) (hbelP _ _)⟩, by simp [intOf]; omega⟩
      · replace hm : (IntKind.u64.wrap K).tmod 6 = 2 := hm
        have HT := HAD [46, 63]
        have HQ : Hid (NQ ((2, 0, 0, 1), [46, 63], (true, 0, 0, 1))) := .inr (.inr (.inl rfl))
        clear HAD
        go_wp2_with (first
          | (at_builtin
             refine wpList_appendQ _ rfl (.tmp 88) (.tmp 90) rfl w.heap.size _ k (qCells ts) 2 0 0 1 (wr.heap.size + 2) (by simp) rfl rfl (hownP _ _) (by simp; omega) (by omega) ?_
             intro v4 w4 hown4 hkeep4))
        exact ⟨⟨k + 1, ts ++ [((2, 0, 0, 1), [46, 63], (true, 0, 0, 1))], by omega, by go_num, by rw [txts_snoc, ← HT.out], by show (_ : Nat) = _; rw [List.length_append, HL.out]; rfl, allNQ_snoc HA.out HQ.out, by rw [qCells_snoc]; exact hown4, hkeep4 _ _ (Nat.le_refl _) (hbelP _ _)⟩, by simp [intOf]; omega⟩
      · replace hm : (IntKind.u64.wrap K).tmod 6 = 3 := hm
        have HT := HAD [46, 43]
        have HQ : Hid (NQ ((3, 0, 1, 1048576), [46, 43], (true, 0, 1, maxI))) := .inr (.inr (.inr (.inl rfl)))
        clear HAD
        go_wp2_with (first
          | (at_builtin
             refine wpList_appendQ _ rfl (.tmp 88) (.tmp 90) rfl w.heap.size _ k (qCells ts) 3 0 1 1048576 (wr.heap.size + 2) (by simp) rfl rfl (hownP _ _) (by simp; omega) (by omega) ?_
             intro v4 w4 hown4 hkeep4))
        exact ⟨⟨k + 1, ts ++ [((3, 0, 1, 1048576), [46, 43], (true, 0, 1, maxI))], by omega, by go_num, by rw [txts_snoc, ← HT.out], by show (_ : Nat) = _; rw [List.length_append, HL.out]; rfl, allNQ_snoc HA.out HQ.out, by rw [qCells_snoc]; exact hown4, hkeep4 _ _ (Nat.le_refl _) (hbelP _ _)⟩, by simp [intOf]; omega⟩
      · replace hm : (IntKind.u64.wrap K).tmod 6 = 4 := hm
        have HT := HAD [46, 42]
        have HQ : Hid (NQ ((4, 0, 0, 1048576), [46, 42], (true, 0, 0, maxI))) := .inr (.inr (.inr (.inr (.inl rfl))))
        clear HAD
        go_wp2_with (first
          | (at_builtin
             refine wpList_appendQ _ rfl (.tmp 88) (.tmp 90) rfl w.heap.size _ k (qCells ts) 4 0 0 1048576 (wr.heap.size + 2) (by simp) rfl rfl (hownP _ _) (by simp; omega) (by omega) ?_
             intro v4 w4 hown4 hkeep4))
        exact ⟨⟨k + 1, ts ++ [((4, 0, 0, 1048576), [46, 42], (true, 0, 0, maxI))], by omega, by go_num, by rw [txts_snoc, ← HT.out], by show (_ : Nat) = _; rw [List.length_append, HL.out]; rfl, allNQ_snoc HA.out HQ.out, by rw [qCells_snoc]; exact hown4, hkeep4 _ _ (Nat.le_refl _) (hbelP _ _)⟩, by simp [intOf]; omega⟩
      · replace hm : (IntKind.u64.wrap K).tmod 6 = 5 := hm
        obtain ⟨a, hla, ha7⟩ := and_7 lo
        obtain ⟨b, hlb, hb7⟩ := and_7 hi
        obtain ⟨h, hh⟩ : ∃ h, h = a + b := ⟨_, rfl⟩
        have hsum : (a : Int) + (b : Int) = (h : Int) := by omega
        have h14 : h ≤ 14 := by omega
        have hah : a ≤ h := by omega
        have HQ : Hid (NQ ((5, 0, (a : Int), (h : Int)), braT a h, (true, 0, (a : Int), (h : Int)))) := .inr (.inr (.inr (.inr (.inr ⟨a, h, ha7, hah, h14, rfl⟩))))
        have da := dec_small ⟨a, by omega⟩
        have dh := dec_small ⟨h, by omega⟩
        have zda := da.2.2
        have zdh := dh.2.2
        simp only at zda zdh
        have HI1 := Lib.hid (fun W => Tryd.strconv_Itoa_small a (by omega) W)
        have HI2 := Lib.hid (fun W => Tryd.strconv_Itoa_small h (by omega) W)
        obtain ⟨S1, e1, z1⟩ : ∃ S, strOf (txts ts) ++ (⟨#[46, 123]⟩ : ByteArray) = strOf S ∧ S = txts ts ++ [46, 123] := ⟨_, add8 _ [46, 123], rfl⟩
        obtain ⟨S2, e2, z2⟩ : ∃ S, strOf S1 ++ (⟨(Lib.decDigits a).toArray⟩ : ByteArray) = strOf S ∧ S = S1 ++ Lib.decDigits a := ⟨_, add8 _ _, rfl⟩
        obtain ⟨S3, e3, z3⟩ : ∃ S, strOf S2 ++ (⟨#[44]⟩ : ByteArray) = strOf S ∧ S = S2 ++ [44] := ⟨_, add8 _ [44], rfl⟩
        obtain ⟨S4, e4, z4⟩ : ∃ S, strOf S3 ++ (⟨(Lib.decDigits h).toArray⟩ : ByteArray) = strOf S ∧ S = S3 ++ Lib.decDigits h := ⟨_, add8 _ _, rfl⟩
        obtain ⟨S5, e5, z5⟩ : ∃ S, strOf S4 ++ (⟨#[125]⟩ : ByteArray) = strOf S ∧ S = S4 ++ [125] := ⟨_, add8 _ [125], rfl⟩
        have HS5 : Hid (S5 = txts ts ++ braT a h) := by show _ = _; rw [z5, z4, z3, z2, z1]; simp [braT]
        have l0 : (txts ts).length ≤ 1000 := by rw [← size8]; exact hzt
        have l1 : (strOf S1).size ≤ 1100 := by rw [size8, z1, List.length_append]; simp; omega
        have l2 : (strOf S2).size ≤ 1100 := by rw [size8, z2, z1, List.length_append, List.length_append]; simp; omega
        have l3 : (strOf S3).size ≤ 1100 := by rw [size8, z3, z2, z1]; simp; omega
        have l4 : (strOf S4).size ≤ 1100 := by rw [size8, z4, z3, z2, z1]; simp; omega
        have l5 : (⟨(Lib.decDigits a).toArray⟩ : ByteArray).size ≤ 2 := by rw [show (⟨(Lib.decDigits a).toArray⟩ : ByteArray) = strOf (Lib.decDigits a) from rfl, size8]; exact zda
        have l6 : (⟨(Lib.decDigits h).toArray⟩ : ByteArray).size ≤ 2 := by rw [show (⟨(Lib.decDigits h).toArray⟩ : ByteArray) = strOf (Lib.decDigits h) from rfl, size8]; exact zdh
        clear HAD z1 z2 z3 z4 z5 hh da dh zda zdh l0
        generalize Lib.decDigits a = dga at *
        generalize Lib.decDigits h = dgh at *
        go_wp2_with fail
        go_quiet ((go_at_call 20; first | (exact Calls.quiet_of_same (HI1.out _)) | (exact Calls.quiet_of_same (HI2.out _))))
        go_wp2_with (first
          | (at_builtin
             refine wpList_appendQ _ rfl (.tmp 88) (.tmp 90) rfl w.heap.size _ k (qCells ts) 5 0 (a : Int) (h : Int) (wr.heap.size + 2) (by simp) rfl rfl (own_below (hownP _ _) (below_drewN (Below.refl _ _) nq)) (by simp; omega) (by omega) ?_
             intro v4 w4 hown4 hkeep4))
        exact ⟨⟨k + 1, ts ++ [((5, 0, (a : Int), (h : Int)), braT a h, (true, 0, (a : Int), (h : Int)))], by omega, by go_num, by rw [txts_snoc, ← HS5.out], by show (_ : Nat) = _; rw [List.length_append, HL.out]; rfl, allNQ_snoc HA.out HQ.out, by rw [qCells_snoc]; exact hown4, hkeep4 _ _ (Nat.le_refl _) (below_drewN (hbelP _ _) nq)⟩, by simp [intOf]; omega⟩
    · obtain rfl : k = n := by omega
      obtain ⟨A5, c5, rfl, _, _, _, _⟩ := own_form hown
      go_wp2_with fail
      go_ret2
      exact ⟨_, ts, rfl, HL.out, HA.out, hown, hbel⟩
end Go.Proofs.YtdijicdlglnlmaaDoor
