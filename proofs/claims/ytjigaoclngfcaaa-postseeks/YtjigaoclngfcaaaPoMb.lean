/- Hits that a law builds. -/
import Derived.Test.YtjigaoclngfcaaaPoHr
import Derived.Test.YtjigaoclngfcaaaPoMy
import Derived.Test.YtjigaoclngfcaaaPoSm
namespace Go.Proofs.Ytjigaoclngfcaaa
open Go.RowKit
set_option maxRecDepth 100000

theorem and_127 (b : Int) : ∃ n : Nat, bits .and .i64 b 127 = (n : Int) ∧ n ≤ 127 := by
  have h : (BitVec.ofInt 64 b &&& BitVec.ofInt 64 127).toNat ≤ 127 := by
    rw [BitVec.toNat_and]
    exact Nat.le_trans Nat.and_le_right (by decide)
  refine ⟨(BitVec.ofInt 64 b &&& BitVec.ofInt 64 127).toNat, ?_, h⟩
  show IntKind.i64.wrap ((BitVec.ofInt 64 b &&& BitVec.ofInt 64 127).toNat : Int) = _
  rw [IntKind.wrap_i64]
  omega
theorem and_1023 (b : Int) : ∃ n : Nat, bits .and .i64 b 1023 = (n : Int) ∧ n ≤ 1023 := by
  have h : (BitVec.ofInt 64 b &&& BitVec.ofInt 64 1023).toNat ≤ 1023 := by
    rw [BitVec.toNat_and]
    exact Nat.le_trans Nat.and_le_right (by decide)
  refine ⟨(BitVec.ofInt 64 b &&& BitVec.ofInt 64 1023).toNat, ?_, h⟩
  show IntKind.i64.wrap ((BitVec.ofInt 64 b &&& BitVec.ofInt 64 1023).toNat : Int) = _
  rw [IntKind.wrap_i64]
  omega
theorem and_3q (b : Int) : ∃ n : Nat, bits .and .i64 b 3 = (n : Int) ∧ n ≤ 3 := by
  have h : (BitVec.ofInt 64 b &&& BitVec.ofInt 64 3).toNat ≤ 3 := by
    rw [BitVec.toNat_and]
    exact Nat.le_trans Nat.and_le_right (by decide)
  refine ⟨(BitVec.ofInt 64 b &&& BitVec.ofInt 64 3).toNat, ?_, h⟩
  show IntKind.i64.wrap ((BitVec.ofInt 64 b &&& BitVec.ofInt 64 3).toNat : Int) = _
  rw [IntKind.wrap_i64]
  omega
structure ML (w0 wr : World) (v : Value) (zs : List (Value × Value)) (hs : List HI) : Prop where
  own : wr.ownsRow w0.heap.size 37 2 v zs.length (cellsZ zs)
  len : zs.length = hs.length
  kb : Below w0.heap.size w0 wr
  at_ : ∀ k (h1 : k < zs.length) (h2 : k < hs.length), zs[k].1 = .int .i64 hs[k].1 ∧ ∃ A c, zs[k].2 = .slice A hs[k].2.length c ∧ hs[k].2.length ≤ c ∧ c ≤ maxLen ∧ CS wr wr.heap.size A (hs[k].2.map eI) ∧ ∀ a, A = some a → 0 < hs[k].2.length → some a.block ≠ v.ownBlock
theorem ML.hs {w0 wr : World} {v : Value} {zs : List (Value × Value)} {hs : List HI} (h : ML w0 wr v zs hs) : ∃ A c, v = .slice A zs.length c ∧ zs.length ≤ c ∧ c ≤ maxLen ∧ HS wr wr.heap.size A hs := by
  obtain ⟨A, c, rfl, h1, h2, hcs, _⟩ := own_form h.own
  refine ⟨A, c, rfl, h1, h2, fun hp => ?_⟩
  obtain ⟨b, o, e, hb, hcl⟩ := hcs (by rw [cellsZ_len, h.len]; omega)
  refine ⟨b, o, e, hb, fun k hk => ?_⟩
  have hkz : k < zs.length := by rw [h.len]; exact hk
  obtain ⟨c0, c1⟩ := cellsZ_at zs k hkz
  obtain ⟨x0, A2, c2, x1, x2, x3, x4, _⟩ := h.at_ k hkz hk
  rw [x0] at c0
  rw [x1] at c1
  have z1 := hcl _ _ c1
  refine ⟨hcl _ _ c0, A2, c2, ?_, x2, x3, x4⟩
  rw [Nat.add_assoc]
  exact z1
theorem ML.app {w0 wr X w4 : World} {v v' : Value} {zs : List (Value × Value)} {hs : List HI} (h : ML w0 wr v zs hs) (hX : Below wr.heap.size wr X) (x : HI) (g : Nat) (hg1 : wr.heap.size ≤ g) (hg2 : g < X.heap.size) (hl : x.2.length ≤ maxLen)
    (hc : CS X X.heap.size (some ⟨g, 0, none⟩) (x.2.map eI)) (hown : w4.ownsRow w0.heap.size 37 2 v' (zs.length + 1) (cellsZ (zs ++ [(.int .i64 x.1, .slice (some ⟨g, 0, none⟩) x.2.length x.2.length)]))) (hg : X.grownBy w4 v.ownBlock) (hv : v'.ownBlock = v.ownBlock ∨ v'.ownBlock = some X.heap.size) :
    ML w0 w4 v' (zs ++ [(.int .i64 x.1, .slice (some ⟨g, 0, none⟩) x.2.length x.2.length)]) (hs ++ [x]) := by
  obtain ⟨_, _, _, _, _, _, hob⟩ := own_form h.own
  have hXs := hX.size
  have h4s := hg.size
  have same : ∀ b, b < X.heap.size → some b ≠ v.ownBlock → w4.heap[b]? = X.heap[b]? := fun b hb hne => hg.block b hb hne
  have nv : ∀ b, b < X.heap.size → some b ≠ v.ownBlock → some b ≠ v'.ownBlock := fun b hb hne e => by
    rcases hv with hv | hv
    · exact hne (e.trans hv)
    · rw [hv] at e
      injection e with e
      omega
  have mv : ∀ (B : Nat) (A : Option Addr) (us : List Value) (Y : World), Y.heap.size = B → B ≤ X.heap.size → (∀ b, b < B → X.heap[b]? = Y.heap[b]?) → (∀ a, A = some a → 0 < us.length → some a.block ≠ v.ownBlock) → CS Y B A us → CS w4 w4.heap.size A us ∧ ∀ a, A = some a → 0 < us.length → some a.block ≠ v'.ownBlock := fun B A us Y hY hBX hbl hne hcs => by
    refine ⟨fun hp => ?_, fun a ha hp => ?_⟩
    · obtain ⟨b, o, e, hb, hcl⟩ := hcs hp
      subst e
      have hk := (same b (by omega) (hne _ rfl hp)).trans (hbl b hb)
      exact ⟨b, o, rfl, by omega, fun k u hu => (cellH hk).trans (hcl k u hu)⟩
    · obtain ⟨b, o, e, hb, _⟩ := hcs hp
      rw [e] at ha
      obtain rfl := Option.some.inj ha
      exact nv b (by omega) (hne _ e hp)
  refine ⟨by rw [List.length_append]; exact hown, by rw [List.length_append, List.length_append, h.len]; rfl, own_grow (own_below h.own hX) (Nat.le_refl _) (h.kb.trans (hX.mono h.kb.size)) (by have := h.kb.size; omega) hg, fun k h1 h2 => ?_⟩
  rcases Nat.lt_or_ge k zs.length with hk | hk
  · have hk2 : k < hs.length := by rw [← h.len]; exact hk
    rw [List.getElem_append_left hk, List.getElem_append_left hk2]
    obtain ⟨z1, A, c, z2, z3, z4, z5, z6⟩ := h.at_ k hk hk2
    obtain ⟨m1, m2⟩ := mv _ A _ wr rfl hXs (fun b hb => hX.block b hb) (fun a ha hp => z6 a ha (by rw [List.length_map] at hp; exact hp)) z5
    exact ⟨z1, A, c, z2, z3, z4, m1, fun a ha hp => m2 a ha (by rw [List.length_map]; exact hp)⟩
  · have hk' : k = zs.length := by rw [List.length_append] at h1; simp at h1; omega
    subst hk'
    have e1 : (zs ++ [(Value.int .i64 x.1, Value.slice (some ⟨g, 0, none⟩) x.2.length x.2.length)])[zs.length]'h1 = (.int .i64 x.1, .slice (some ⟨g, 0, none⟩) x.2.length x.2.length) := by simp
    have e2 : (hs ++ [x])[zs.length]'h2 = x := by
      have := h.len
      rw [List.getElem_append_right (by omega)]
      simp [this]
    rw [e1, e2]
    obtain ⟨m1, m2⟩ := mv _ (some ⟨g, 0, none⟩) _ X rfl (Nat.le_refl _) (fun b _ => rfl) (fun a ha _ => by
      obtain rfl := Option.some.inj ha
      intro e
      have h9 : g < wr.heap.size := (hob _ e.symm).2
      omega) hc
    exact ⟨rfl, _, _, rfl, Nat.le_refl _, hl, m1, fun a ha hp => m2 a ha (by rw [List.length_map]; exact hp)⟩
theorem eBs_le2 : ∀ (bs : List (List HI)) (d : Int), (∀ b ∈ bs, b.length ≤ 4 ∧ ∀ x ∈ b, x.2.length ≤ 2) → (eBs d bs).length ≤ bs.length * 180
  | [], d, _ => by simp [eBs]
  | b :: t, d, h => by
    obtain ⟨h1, h2⟩ := h b (by simp)
    have g3 := eBl_le 2 (by decide) b d h2
    have g1 := glen_le10 (df (docOf 0 b) d) (df_lt _ _)
    have g2 := glen_le10 (eBl d b).length (by omega)
    unfold glen at g1 g2
    have ih := eBs_le2 t (docOf 0 b) (fun x hx => h x (by simp [hx]))
    simp only [eBs, eB1, List.length_append, List.length_cons]
    omega
theorem eP_hM (p n : Nat) (hn : n ≤ 128) : (eP (hM p n)).length ≤ 10000 := by
  have h := eBs_le2 ((List.range (nbl (hM p n).length)).map (blk (hM p n))) 0 fun b hb => by
    obtain ⟨j, _, rfl⟩ := List.mem_map.1 hb
    refine ⟨by unfold blk; rw [List.length_take]; omega, fun x hx => ?_⟩
    have hx2 := List.mem_of_mem_drop (List.mem_of_mem_take hx)
    obtain ⟨i, _, rfl⟩ := List.mem_map.1 hx2
    exact Nat.le_refl _
  have g := glen_le10 (hM p n).length (by rw [hM_len]; omega)
  unfold glen at g
  rw [List.length_map, List.length_range, hM_len] at h
  unfold eP
  rw [List.length_append, hM_len]
  rw [hM_len] at g
  have : nbl n ≤ 32 := by unfold nbl; omega
  have := Nat.mul_le_mul_right 180 this
  omega
end Go.Proofs.Ytjigaoclngfcaaa
