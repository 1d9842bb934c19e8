/- The laws' own 'signs': the signs of a text. -/
import Derived.Test.YtdijicdlglnlmaaDoorGlText
namespace Go.Proofs.YtdijicdlglnlmaaDoor
open Go.RowKit
set_option maxRecDepth 100000

theorem info_i32 : (Tryd.prog.info? 21).map (fun i => (i.zero, i.size, i.bytes)) = some (some (.int .i32 0), 1, 4) := by kernel_rfl
theorem one_cellI (x : Int) : ∀ u ∈ ([.int .i32 x] : List Value), u.oneCell' = true := by intro u hu; have e := List.mem_singleton.1 hu; subst e; rfl
/-- append of one int32 that lies in a new literal. -/
theorem wpList_appendI {ops : Array Oper} {rest : List Oper} {o : Oper} {a : Act} {Q : Exit → Act → World → Prop} (wr : World) (hgd : o.guard = none) (s x : Operand)
    (ho : o.op = .call { callee := .builtin .append, args := #[s, x], argTypes := #[37, 37] })
    (base : Nat) (v : Value) (n : Nat) (xs : List Value) (b : Int) (hs : a.eval s = v) (hx : a.eval x = .slice (some ⟨wr.heap.size, 0, none⟩) 1 1) (hown : wr.ownsRow base 21 1 v n xs) (hbase : base ≤ wr.heap.size) (hn : n ≤ 1000000)
    (h : ∀ v' w', w'.ownsRow base 21 1 v' (n + 1) (xs ++ [.int .i32 b]) → (∀ w0 B, B ≤ base → Below B w0 wr → Below B w0 w') → wpList Tryd.prog ops Q rest (a.put o.dst v') w') :
    wpList Tryd.prog ops Q (o :: rest) a (wr.alloc (.cells #[.int .i32 b] 21)) := by
  obtain ⟨i0, hi, hz0, hz1, hz2⟩ := info_parts info_i32
  have hownA : (wr.alloc (.cells #[.int .i32 b] 21)).ownsRow base 21 1 v n xs := own_below hown ((Below.refl _ _).alloc (Nat.le_refl _) _)
  have hbaseA : base ≤ (wr.alloc (.cells #[.int .i32 b] 21)).heap.size := by simp; omega
  refine wpList_append_own_at _ hgd s x 37 ho base 21 i0 (.int .i32 0) 1 4 Tryd.underlying37 hi hz0 hz1 hz2 rfl (by omega) v n xs hs hownA ⟨wr.heap.size, 0, none⟩ 1 1 [.int .i32 b] hx rfl (new_cells wr _ _ _) (one_cellI b) (by unfold maxLen; omega) (by omega) hbaseA ?_
  intro v' w' hown' hg _ _
  exact h v' w' hown' fun w0 B hB hbel => own_grow hownA hB (hbel.alloc (Nat.le_trans hB hbase) _) hbaseA hg
def iCells (rs : List Nat) : List Value := rs.map fun r : Nat => .int .i32 (r : Int)

set_option maxHeartbeats 4000000 in
theorem signs_any (rs : List Nat) (hs : allSign rs) (hl : rs.length ≤ 100000) (w : World) (hT : UT w) :
    Calls Tryd.prog 16 #[.string (strOf (encAll rs))] w fun e w' => ∃ v, e = .returned v ∧ w'.ownsRow w.heap.size 21 1 v rs.length (iCells rs) ∧ Below w.heap.size w w' := by
  have HS := Lib.hid hs
  have HT := Lib.hid hT
  clear hs hT
  go_enter Tryd.func16, Tryd.ntmps16
  go_wp2_with fail
  go_loopw [0, 3] (fun s v wr => ∃ k : Nat, k ≤ rs.length ∧ s = .string (strOf (encAll (rs.drop k))) ∧ wr.ownsRow w.heap.size 21 1 v k (iCells (rs.take k)) ∧ Below w.heap.size w wr) (fun s _ _ => sz s)
  case atStart => exact ⟨0, Nat.zero_le _, rfl, own_lit w _ 1 _ rfl, (Below.refl _ _).alloc (Nat.le_refl _) _⟩
  case round =>
    obtain ⟨k, hk, rfl, hown, hbel⟩ := hrel
    by_cases hlt : k < rs.length
    · have hdr : rs.drop k = rs[k] :: rs.drop (k + 1) := List.drop_eq_getElem_cons hlt
      have htk : Hid (iCells (rs.take (k + 1)) = iCells (rs.take k) ++ [.int .i32 ((rs[k] : Nat) : Int)]) := by
        show _ = _
        unfold iCells
        rw [List.take_succ_eq_append_getElem hlt, List.map_append]
        rfl
      have hsr := HS.out rs[k] (List.getElem_mem hlt)
      generalize rs[k] = r at *
      have hN := next_any (encAll (rs.drop k)) wr (ut_keep HT.out hbel)
      rw [hdr, encAll_cons, nextN_enc r hsr] at hN
      rw [hdr, encAll_cons]
      have HN := Lib.hid hN
      have h1 := (encS_len r).1
      have h4 := (encS_len r).2
      have hbig : (encS r ++ encAll (rs.drop (k + 1))).length ≤ 500000 := by
        rw [← encAll_cons, ← hdr]
        have := encAll_len4 (rs.drop k)
        rw [List.length_drop] at this
        omega
      have hz : (strOf (encS r ++ encAll (rs.drop (k + 1)))).size ≤ 500000 := by rw [size8]; exact hbig
      have hz0 : (0 : Int) < ((strOf (encS r ++ encAll (rs.drop (k + 1)))).size : Int) := by rw [size8, List.length_append]; omega
      have hle : (encS r).length ≤ (strOf (encS r ++ encAll (rs.drop (k + 1)))).size := by rw [size8, List.length_append]; omega
      have hcut : (strOf (encS r ++ encAll (rs.drop (k + 1)))).extract (encS r).length (strOf (encS r ++ encAll (rs.drop (k + 1)))).size = strOf (encAll (rs.drop (k + 1))) := by rw [cut8, List.drop_left]
      have HZ : Hid ((strOf (encAll (rs.drop (k + 1)))).size < (strOf (encS r ++ encAll (rs.drop (k + 1)))).size) := by show _ < _; rw [size8, size8, List.length_append]; omega
      clear hN hdr hbig hsr
      generalize (encS r).length = q at *
      have hmx : max (1 : Int) (q : Int) = (q : Int) := by omega
      generalize encS r ++ encAll (rs.drop (k + 1)) = t at *
      go_wp2_with fail
      refine HN.out.mono ?_
      rintro e w2 ⟨rfl, hb2⟩
      simp only
      have hown2 := own_below hown hb2
      have hbel2 : Below w.heap.size w w2 := hbel.trans (hb2.mono hbel.size)
      have hs2 : w.heap.size ≤ w2.heap.size := hbel2.size
      clear hown hb2
      go_wp2_with (first
        | (at_builtin
           refine wpList_appendI w2 rfl (.tmp 15) (.tmp 17) rfl w.heap.size _ k (iCells (rs.take k)) (r : Int) rfl rfl hown2 hs2 (by omega) ?_
           intro v4 w4 hown4 hkeep4))
      exact ⟨⟨k + 1, by omega, rfl, by rw [htk.out]; exact hown4, hkeep4 _ _ (Nat.le_refl _) hbel2⟩, HZ.out⟩
    · have he : k = rs.length := by omega
      have hd : rs.drop k = [] := List.drop_eq_nil_of_le (by omega)
      rw [he, List.take_length] at hown
      rw [hd]
      have hz0 : (strOf (encAll [])).size = 0 := rfl
      obtain ⟨A, c, rfl, _, _, _, _⟩ := own_form hown
      clear he hd
      go_wp2_with fail
      go_ret
      exact ⟨_, rfl, hown, hbel⟩
end Go.Proofs.YtdijicdlglnlmaaDoor
