/- StemMeasures answers true. -/
import Derived.Test.YtdijicdlglnlmaaStLaw1
import Derived.Test.YtdijicdlglnlmaaCs
import Derived.Test.YtdijicdlglnlmaaMem2
import Derived.OwnWalk
namespace Go.Proofs.Ytdijicdlglnlmaa
open Go.RowKit
set_option maxRecDepth 100000

theorem info_bool : (Try.prog.info? 4).map (fun i => (i.zero, i.size, i.bytes)) = some (some (.bool false), 1, 1) := by kernel_rfl
/-- Of each letter whether it is a vowel. -/
def vl (l : List UInt8) : List Value := (List.range l.length).map fun i => .bool (openL (l.take (i + 1)))
theorem vl_len (l : List UInt8) : (vl l).length = l.length := by simp [vl]
theorem vl_at (l : List UInt8) (k : Nat) (h : k < l.length) : (vl l)[k]? = some (.bool (openL (l.take (k + 1)))) := by simp [vl, h]
theorem vl_snoc (l : List UInt8) (k : Nat) (h : k < l.length) : vl (l.take (k + 1)) = vl (l.take k) ++ [.bool (openL (l.take (k + 1)))] := by
  apply List.ext_getElem?
  intro i
  by_cases hi : i < k
  · rw [vl_at _ i (by simp; omega), List.getElem?_append_left (by rw [vl_len]; simp; omega), vl_at _ i (by simp; omega), List.take_take, List.take_take]
    congr 4; omega
  · by_cases he : i = k
    · subst he
      rw [vl_at _ i (by simp; omega), List.getElem?_append_right (by rw [vl_len, List.length_take]; omega), vl_len, List.take_take]
      have hm : min i l.length = i := by omega
      have hm2 : min (i + 1) (i + 1) = i + 1 := by omega
      rw [List.length_take, hm, Nat.sub_self, hm2]
      rfl
    · rw [List.getElem?_eq_none (by rw [vl_len]; simp; omega), List.getElem?_eq_none (by simp [vl_len]; omega)]

theorem vow_parts (x : UInt8) :
    (((x.toNat : Int) == 97) = true ∧ ((x.toNat : Int) == 101) = false ∧ ((x.toNat : Int) == 105) = false ∧ ((x.toNat : Int) == 111) = false ∧ ((x.toNat : Int) == 117) = false ∧ ((x.toNat : Int) == 121) = false ∧ ∀ f b, vow x f b = true) ∨
    (((x.toNat : Int) == 97) = false ∧ ((x.toNat : Int) == 101) = true ∧ ((x.toNat : Int) == 105) = false ∧ ((x.toNat : Int) == 111) = false ∧ ((x.toNat : Int) == 117) = false ∧ ((x.toNat : Int) == 121) = false ∧ ∀ f b, vow x f b = true) ∨
    (((x.toNat : Int) == 97) = false ∧ ((x.toNat : Int) == 101) = false ∧ ((x.toNat : Int) == 105) = true ∧ ((x.toNat : Int) == 111) = false ∧ ((x.toNat : Int) == 117) = false ∧ ((x.toNat : Int) == 121) = false ∧ ∀ f b, vow x f b = true) ∨
    (((x.toNat : Int) == 97) = false ∧ ((x.toNat : Int) == 101) = false ∧ ((x.toNat : Int) == 105) = false ∧ ((x.toNat : Int) == 111) = true ∧ ((x.toNat : Int) == 117) = false ∧ ((x.toNat : Int) == 121) = false ∧ ∀ f b, vow x f b = true) ∨
    (((x.toNat : Int) == 97) = false ∧ ((x.toNat : Int) == 101) = false ∧ ((x.toNat : Int) == 105) = false ∧ ((x.toNat : Int) == 111) = false ∧ ((x.toNat : Int) == 117) = true ∧ ((x.toNat : Int) == 121) = false ∧ ∀ f b, vow x f b = true) ∨
    (((x.toNat : Int) == 97) = false ∧ ((x.toNat : Int) == 101) = false ∧ ((x.toNat : Int) == 105) = false ∧ ((x.toNat : Int) == 111) = false ∧ ((x.toNat : Int) == 117) = false ∧ ((x.toNat : Int) == 121) = true ∧ ∀ f b, vow x f b = (!f && !b)) ∨
    (((x.toNat : Int) == 97) = false ∧ ((x.toNat : Int) == 101) = false ∧ ((x.toNat : Int) == 105) = false ∧ ((x.toNat : Int) == 111) = false ∧ ((x.toNat : Int) == 117) = false ∧ ((x.toNat : Int) == 121) = false ∧ ∀ f b, vow x f b = false) := by
  have key : ∀ k : Nat, k < 256 → ((x.toNat : Int) == (k : Int)) = (x == UInt8.ofNat k) := fun k hk => by
    rw [u8_eq x k hk, Bool.eq_iff_iff, beq_iff_eq, decide_eq_true_eq]
  have k1 := key 97 (by omega)
  have k2 := key 101 (by omega)
  have k3 := key 105 (by omega)
  have k4 := key 111 (by omega)
  have k5 := key 117 (by omega)
  have k6 := key 121 (by omega)
  have e1 : ((x.toNat : Int) == 97) = (x == 97) := k1
  have e2 : ((x.toNat : Int) == 101) = (x == 101) := k2
  have e3 : ((x.toNat : Int) == 105) = (x == 105) := k3
  have e4 : ((x.toNat : Int) == 111) = (x == 111) := k4
  have e5 : ((x.toNat : Int) == 117) = (x == 117) := k5
  have e6 : ((x.toNat : Int) == 121) = (x == 121) := k6
  rw [e1, e2, e3, e4, e5, e6]
  clear k1 k2 k3 k4 k5 k6 key e1 e2 e3 e4 e5 e6
  by_cases h1 : x = 97
  · subst h1; exact .inl (by decide)
  by_cases h2 : x = 101
  · subst h2; exact .inr (.inl (by decide))
  by_cases h3 : x = 105
  · subst h3; exact .inr (.inr (.inl (by decide)))
  by_cases h4 : x = 111
  · subst h4; exact .inr (.inr (.inr (.inl (by decide))))
  by_cases h5 : x = 117
  · subst h5; exact .inr (.inr (.inr (.inr (.inl (by decide)))))
  by_cases h6 : x = 121
  · subst h6; exact .inr (.inr (.inr (.inr (.inr (.inl (by decide))))))
  refine .inr (.inr (.inr (.inr (.inr (.inr ⟨beq_eq_false_iff_ne.2 h1, beq_eq_false_iff_ne.2 h2, beq_eq_false_iff_ne.2 h3, beq_eq_false_iff_ne.2 h4, beq_eq_false_iff_ne.2 h5, beq_eq_false_iff_ne.2 h6, fun f b => ?_⟩)))))
  simp [vow, isV, h1, h2, h3, h4, h5, h6]
theorem one_cellB (b : Bool) : ∀ u ∈ ([.bool b] : List Value), u.oneCell' = true := by intro u hu; have e := List.mem_singleton.1 hu; subst e; rfl

/-- append of one bool that lies in a new literal. -/
theorem wpList_appendB {ops : Array Oper} {rest : List Oper} {o : Oper} {a : Act} {Q : Exit → Act → World → Prop} (wr : World) (hgd : o.guard = none) (s x : Operand)
    (ho : o.op = .call { callee := .builtin .append, args := #[s, x], argTypes := #[29, 29] })
    (base : Nat) (v : Value) (n : Nat) (xs : List Value) (b : Bool) (hs : a.eval s = v) (hx : a.eval x = .slice (some ⟨wr.heap.size, 0, none⟩) 1 1) (hown : wr.ownsRow base 4 1 v n xs) (hbase : base ≤ wr.heap.size) (hn : n ≤ 1000000)
    (h : ∀ v' w', w'.ownsRow base 4 1 v' (n + 1) (xs ++ [.bool b]) → (∀ w0 B, B ≤ base → Below B w0 wr → Below B w0 w') → wpList Try.prog ops Q rest (a.put o.dst v') w') :
    wpList Try.prog ops Q (o :: rest) a (wr.alloc (.cells #[.bool b] 4)) := by
  obtain ⟨i0, hi, hz0, hz1, hz2⟩ := info_parts info_bool
  have hownA : (wr.alloc (.cells #[.bool b] 4)).ownsRow base 4 1 v n xs := own_below hown ((Below.refl _ _).alloc (Nat.le_refl _) _)
  have hbaseA : base ≤ (wr.alloc (.cells #[.bool b] 4)).heap.size := by simp; omega
  refine wpList_append_own_at _ hgd s x 29 ho base 4 i0 (.bool false) 1 1 Try.underlying29 hi hz0 hz1 hz2 rfl (by omega) v n xs hs hownA ⟨wr.heap.size, 0, none⟩ 1 1 [.bool b] hx rfl (new_cells wr _ _ _) (one_cellB b) (by unfold maxLen; omega) (by omega) hbaseA ?_
  intro v' w' hown' hg _ _
  exact h v' w' hown' fun w0 B hB hbel => own_grow hownA hB (hbel.alloc (Nat.le_trans hB hbase) _) hbaseA hg

set_option maxHeartbeats 8000000 in
theorem vowels_any (l : List UInt8) (hl : l.length ≤ 1000000) (w : World) :
    Calls Try.prog 20 #[.string (strOf l)] w fun e w' => ∃ v, e = .returned v ∧ w'.ownsRow w.heap.size 4 1 v l.length (vl l) ∧ Below w.heap.size w w' := by
  have HZ := Lib.hid (size8 l)
  have hs : (strOf l).size ≤ 1000000 := by rw [size8]; exact hl
  go_enter Try.func20, Try.ntmps20
  go_wp2_with fail
  go_loopw [3, 4] (fun v i wr => ∃ k : Nat, k ≤ (strOf l).size ∧ i = .int .i64 k ∧ wr.ownsRow w.heap.size 4 1 v k (vl (l.take k)) ∧ Below w.heap.size w wr) (fun _ i _ => (strOf l).size - (intOf i).toNat)
  case atStart => exact ⟨0, Nat.zero_le _, rfl, own_lit w _ 1 _ rfl, (Below.refl _ _).alloc (Nat.le_refl _) _⟩
  case round =>
    obtain ⟨k, hk, rfl, hown, hbel⟩ := hrel
    by_cases hlt : k < (strOf l).size
    · have hkl : k < l.length := by rw [← HZ.out]; exact hlt
      have HN : Hid (openL (l.take (k + 1)) = vow ((strOf l)[k]'hlt) (l.take k).isEmpty (openL (l.take k))) := by
        show _ = _
        rw [take_snoc' l k hlt, openL_snoc]
      have HV := Lib.hid (vl_snoc l k hkl)
      obtain ⟨b, hb⟩ : ∃ b, openL (l.take (k + 1)) = b := ⟨_, rfl⟩
      rw [hb] at HN HV
      clear hb
      have hwz : w.heap.size ≤ wr.heap.size := hbel.size
      have cont : b = vow ((strOf l)[k]'hlt) (l.take k).isEmpty (openL (l.take k)) := HN.out
      clear HN
      rcases vow_parts ((strOf l)[k]'hlt) with ⟨n1, n2, n3, n4, n5, n6, hv⟩ | ⟨n1, n2, n3, n4, n5, n6, hv⟩ | ⟨n1, n2, n3, n4, n5, n6, hv⟩ | ⟨n1, n2, n3, n4, n5, n6, hv⟩ | ⟨n1, n2, n3, n4, n5, n6, hv⟩ | ⟨n1, n2, n3, n4, n5, n6, hv⟩ | ⟨n1, n2, n3, n4, n5, n6, hv⟩
      all_goals rw [hv] at cont
      all_goals clear hv
      rotate_left 5
      · cases k with
        | zero =>
          obtain rfl : b = false := cont
          go_wp2_with (first
            | (at_builtin
               refine wpList_appendB wr rfl (.tmp 47) (.tmp 49) rfl w.heap.size _ _ (vl (l.take _)) _ rfl rfl hown hwz (by omega) ?_
               intro v4 w4 hown4 hkeep4))
          refine ⟨⟨1, by omega, by go_num, by rw [HV.out]; exact hown4, hkeep4 _ _ (Nat.le_refl _) hbel⟩, ?_⟩
          simp [intOf]
          omega
        | succ j =>
          have hne : (l.take (j + 1)).isEmpty = false := by
            cases l with
            | nil => simp at hkl
            | cons c t => rfl
          obtain rfl : b = !openL (l.take (j + 1)) := by
            rw [cont, hne]
            rfl
          obtain ⟨A, c, hv3, hnc, _, hcs, _⟩ := own_form hown
          obtain ⟨g, o, rfl, hg, hcell⟩ := hcs (by rw [vl_len]; simp; omega)
          have hc1 := hcell j _ (vl_at (l.take (j + 1)) j (by simp; omega))
          rw [List.take_take, Nat.min_self] at hc1
          subst hv3
          clear hne hcell cont
          go_wp2_with (first
            | (at_builtin
               refine wpList_appendB wr rfl (.tmp 47) (.tmp 49) rfl w.heap.size _ _ (vl (l.take _)) _ rfl rfl hown hwz (by omega) ?_
               intro v4 w4 hown4 hkeep4))
          refine ⟨⟨j + 1 + 1, by omega, by go_num, by rw [HV.out]; exact hown4, hkeep4 _ _ (Nat.le_refl _) hbel⟩, ?_⟩
          simp [intOf]
          omega
      · obtain rfl : b = false := cont
        go_wp2_with (first
          | (at_builtin
             refine wpList_appendB wr rfl (.tmp 47) (.tmp 49) rfl w.heap.size _ _ (vl (l.take _)) _ rfl rfl hown hwz (by omega) ?_
             intro v4 w4 hown4 hkeep4))
        refine ⟨⟨k + 1, by omega, by go_num, by rw [HV.out]; exact hown4, hkeep4 _ _ (Nat.le_refl _) hbel⟩, ?_⟩
        simp [intOf]
        omega
      all_goals
        obtain rfl : b = true := cont
        go_wp2_with (first
          | (at_builtin
             refine wpList_appendB wr rfl (.tmp 47) (.tmp 49) rfl w.heap.size _ _ (vl (l.take _)) _ rfl rfl hown hwz (by omega) ?_
             intro v4 w4 hown4 hkeep4))
        refine ⟨⟨k + 1, by omega, by go_num, by rw [HV.out]; exact hown4, hkeep4 _ _ (Nat.le_refl _) hbel⟩, ?_⟩
        simp [intOf]
        omega
    · have he : l.take k = l := List.take_of_length_le (by rw [size8] at hlt; omega)
      have hke : k = l.length := by rw [← HZ.out]; omega
      rw [he, hke] at hown
      obtain ⟨A, c, rfl, _, _, _, _⟩ := own_form hown
      clear he
      go_wp2_with fail
      go_ret
      exact ⟨_, rfl, hown, hbel⟩
end Go.Proofs.Ytdijicdlglnlmaa
