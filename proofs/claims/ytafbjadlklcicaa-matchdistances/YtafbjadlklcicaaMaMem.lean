/- Spans and matches in memory; append onto a row that the call owns, whatever its elements. -/
import Derived.Test.YtafbjadlklcicaaChecked
import Derived.Test.YtafbjadlklcicaaCs
import Derived.OwnWalk
import Derived.WalkKit
import Derived.WalkSpells
import Derived.LoopTactic
import Derived.Outline
import Derived.Lib.Hide
import Derived.Laws.Cover1
namespace Go.Proofs.Ytafbjadlklcicaa
open Go.RowKit
set_option maxRecDepth 100000

abbrev Sp := Int × Int × Int × Int
abbrev Mt := List Sp × List Sp
def spC (s : Sp) : List Value := [.int .i64 s.1, .int .i64 s.2.1, .int .i64 s.2.2.1, .int .i64 s.2.2.2]
def spCs (l : List Sp) : List Value := l.flatMap spC
theorem spCs_nil : spCs [] = [] := rfl
theorem spCs_cons (s : Sp) (t : List Sp) : spCs (s :: t) = spC s ++ spCs t := rfl
theorem spCs_len : ∀ l : List Sp, (spCs l).length = l.length * 4
  | [] => rfl
  | s :: t => by
    rw [spCs_cons, List.length_append, spCs_len t, List.length_cons, show (spC s).length = 4 from rfl]
    omega
theorem spCs_app (l m : List Sp) : spCs (l ++ m) = spCs l ++ spCs m := List.flatMap_append
theorem spCs_one (l : List Sp) : ∀ u ∈ spCs l, u.oneCell' = true := fun u hu => by
  obtain ⟨s, _, h⟩ := List.mem_flatMap.1 hu
  simp only [spC, List.mem_cons, List.not_mem_nil, or_false] at h
  rcases h with rfl | rfl | rfl | rfl <;> rfl
theorem spCs_at : ∀ (l : List Sp) (k : Nat) (hk : k < l.length), (spCs l)[k * 4]? = some (.int .i64 l[k].1) ∧ (spCs l)[k * 4 + 1]? = some (.int .i64 l[k].2.1) ∧ (spCs l)[k * 4 + 2]? = some (.int .i64 l[k].2.2.1) ∧ (spCs l)[k * 4 + 3]? = some (.int .i64 l[k].2.2.2)
  | [], k, h => absurd h (Nat.not_lt_zero _)
  | s :: t, 0, _ => ⟨rfl, rfl, rfl, rfl⟩
  | s :: t, k + 1, h => by
    have ih := spCs_at t k (by simpa using h)
    rw [show (k + 1) * 4 = k * 4 + 1 + 1 + 1 + 1 by omega, List.getElem_cons_succ]
    exact ih
/-- A slice of spans. -/
def SV (w : World) (B : Nat) (v : Value) (l : List Sp) : Prop := ∃ A c, v = .slice A l.length c ∧ l.length ≤ c ∧ c ≤ maxLen ∧ CS w B A (spCs l)
theorem SV.below {w w' : World} {B : Nat} {v : Value} {l : List Sp} (h : SV w B v l) (hb : Below B w w') : SV w' B v l := by
  obtain ⟨A, c, e, h1, h2, h3⟩ := h
  exact ⟨A, c, e, h1, h2, h3.below hb⟩
theorem SV.more {w : World} {B B' : Nat} {v : Value} {l : List Sp} (h : SV w B v l) (hB : B ≤ B') : SV w B' v l := by
  obtain ⟨A, c, e, h1, h2, h3⟩ := h
  exact ⟨A, c, e, h1, h2, h3.more hB⟩
theorem SV.up {w w' : World} {v : Value} {l : List Sp} (h : SV w w.heap.size v l) (hb : Below w.heap.size w w') : SV w' w'.heap.size v l := (h.below hb).more hb.size
theorem SV.nil (w : World) (B : Nat) : SV w B (.slice none 0 0) [] := ⟨none, 0, rfl, Nat.le_refl _, by decide, CS.nil _ _ _⟩
theorem SV.one {w : World} {B : Nat} {v : Value} {l : List Sp} (h : SV w B v l) : v.oneCell' = true := by
  obtain ⟨A, c, rfl, _⟩ := h
  rfl
theorem SV.own {w : World} {base : Nat} {v : Value} {l : List Sp} {n : Nat} (h : w.ownsRow base 26 4 v n (spCs l)) (hn : n = l.length) : SV w w.heap.size v l := by
  subst hn
  obtain ⟨A, c, e, h1, h2, h3, _⟩ := own_form h
  exact ⟨A, c, e, h1, h2, h3⟩
/-- What holds of the block of what a slice points to. -/
def At (P : Nat → Prop) (v : Value) : Prop := ∀ a n c, v = .slice (some a) n c → 0 < n → P a.block
theorem At.nil (P : Nat → Prop) (n c : Nat) : At P (.slice none n c) := fun a m d e _ => by injection e with e; cases e
theorem At.imp {P Q : Nat → Prop} {v : Value} (h : At P v) (k : ∀ b, P b → Q b) : At Q v := fun a n c e hp => k _ (h a n c e hp)
theorem At.and {P Q : Nat → Prop} {v : Value} (h : At P v) (k : At Q v) : At (fun b => P b ∧ Q b) v := fun a n c e hp => ⟨h a n c e hp, k a n c e hp⟩
abbrev Fr (lo : Nat) (v : Value) : Prop := At (fun b => lo ≤ b) v
theorem Fr.nil (lo : Nat) (n c : Nat) : Fr lo (.slice none n c) := At.nil _ _ _
theorem Fr.le {lo lo' : Nat} {v : Value} (h : Fr lo v) (hl : lo' ≤ lo) : Fr lo' v := h.imp fun _ hb => Nat.le_trans hl hb
theorem Fr.own {w : World} {base : Nat} {t : TypeId} {k : Nat} {v : Value} {n : Nat} {xs : List Value} (h : w.ownsRow base t k v n xs) : Fr base v := fun a m c e _ => by
  obtain ⟨_, _, _, _, _, _, h6⟩ := own_form h
  exact (h6 a.block (by rw [e]; rfl)).1
theorem SV.lt {w : World} {B : Nat} {v : Value} {l : List Sp} (h : SV w B v l) : At (fun b => b < B) v := fun a n c e hp => by
  obtain ⟨A, d, rfl, _, _, h3⟩ := h
  injection e with e1 e2 e3
  obtain ⟨b, o, e4, hb, _⟩ := h3 (by rw [spCs_len]; omega)
  rw [e1] at e4
  injection e4 with e4
  rw [e4]
  exact hb
theorem SV.move {w w' : World} {B B' : Nat} {v : Value} {l : List Sp} {P : Nat → Prop} (h : SV w B v l) (hf : At P v) (hk : ∀ g, P g → g < B → w'.heap[g]? = w.heap[g]? ∧ g < B') : SV w' B' v l := by
  obtain ⟨A, c, rfl, h1, h2, h3⟩ := h
  refine ⟨A, c, rfl, h1, h2, fun hp => ?_⟩
  obtain ⟨b, o, rfl, hb, hc⟩ := h3 hp
  have hP := hf ⟨b, o, none⟩ _ _ rfl (by rw [spCs_len] at hp; omega)
  obtain ⟨k1, k2⟩ := hk b hP hb
  refine ⟨b, o, rfl, k2, fun k u hu => ?_⟩
  rw [← hc k u hu]
  simp [World.cell?, k1]
theorem SV.away {w w' : World} {B B' lo : Nat} {v : Value} {l : List Sp} (h : SV w B v l) (hf : Fr lo v) (hk : ∀ g, lo ≤ g → g < B → w'.heap[g]? = w.heap[g]?) (hB : B ≤ B') : SV w' B' v l :=
  h.move hf fun g h1 h2 => ⟨hk g h1 h2, by omega⟩
/-- The cells of matches: two slices each. -/
def zC (zs : List (Value × Value)) : List Value := zs.flatMap fun z => [z.1, z.2]
theorem zC_cons (z : Value × Value) (t : List (Value × Value)) : zC (z :: t) = z.1 :: z.2 :: zC t := rfl
theorem zC_len : ∀ zs : List (Value × Value), (zC zs).length = zs.length * 2
  | [] => rfl
  | z :: t => by rw [zC_cons, List.length_cons, List.length_cons, zC_len t, List.length_cons]; omega
theorem zC_app (l m : List (Value × Value)) : zC (l ++ m) = zC l ++ zC m := List.flatMap_append
theorem zC_at : ∀ (zs : List (Value × Value)) (k : Nat) (hk : k < zs.length), (zC zs)[k * 2]? = some zs[k].1 ∧ (zC zs)[k * 2 + 1]? = some zs[k].2
  | [], k, h => absurd h (Nat.not_lt_zero _)
  | z :: t, 0, _ => ⟨rfl, rfl⟩
  | z :: t, k + 1, h => by
    have ih := zC_at t k (by simpa using h)
    rw [zC_cons, show (k + 1) * 2 = k * 2 + 1 + 1 by omega, List.getElem_cons_succ]
    exact ih
structure MZ (w : World) (B : Nat) (zs : List (Value × Value)) (ms : List Mt) : Prop where
  len : zs.length = ms.length
  at_ : ∀ k (h1 : k < zs.length) (h2 : k < ms.length), SV w B zs[k].1 ms[k].1 ∧ SV w B zs[k].2 ms[k].2
theorem MZ.nil (w : World) (B : Nat) : MZ w B [] [] := ⟨rfl, fun _ h => absurd h (Nat.not_lt_zero _)⟩
theorem MZ.below {w w' : World} {B : Nat} {zs : List (Value × Value)} {ms : List Mt} (h : MZ w B zs ms) (hb : Below B w w') : MZ w' B zs ms := ⟨h.len, fun k h1 h2 => ⟨(h.at_ k h1 h2).1.below hb, (h.at_ k h1 h2).2.below hb⟩⟩
theorem MZ.more {w : World} {B B' : Nat} {zs : List (Value × Value)} {ms : List Mt} (h : MZ w B zs ms) (hB : B ≤ B') : MZ w B' zs ms := ⟨h.len, fun k h1 h2 => ⟨(h.at_ k h1 h2).1.more hB, (h.at_ k h1 h2).2.more hB⟩⟩
theorem MZ.up {w w' : World} {zs : List (Value × Value)} {ms : List Mt} (h : MZ w w.heap.size zs ms) (hb : Below w.heap.size w w') : MZ w' w'.heap.size zs ms := (h.below hb).more hb.size
theorem MZ.app {w : World} {B : Nat} {zs ys : List (Value × Value)} {ms ns : List Mt} (h : MZ w B zs ms) (k : MZ w B ys ns) : MZ w B (zs ++ ys) (ms ++ ns) := by
  refine ⟨by rw [List.length_append, List.length_append, h.len, k.len], fun j h1 h2 => ?_⟩
  have hl := h.len
  rcases Nat.lt_or_ge j zs.length with hj | hj
  · have e1 : (zs ++ ys)[j] = zs[j] := List.getElem_append_left hj
    have e2 : (ms ++ ns)[j] = ms[j]'(by omega) := List.getElem_append_left (by omega)
    rw [e1, e2]
    exact h.at_ j hj (by omega)
  · rw [List.length_append] at h1 h2
    have e1 : (zs ++ ys)[j]'(by rw [List.length_append]; exact h1) = ys[j - zs.length]'(by omega) := List.getElem_append_right hj
    have e2 : (ms ++ ns)[j]'(by rw [List.length_append]; exact h2) = ns[j - ms.length]'(by omega) := List.getElem_append_right (by omega)
    rw [e1, e2]
    have := k.at_ (j - zs.length) (by omega) (by omega)
    simp only [hl] at this ⊢
    exact this
theorem MZ.one {w : World} {B : Nat} {z : Value × Value} {m : Mt} (h1 : SV w B z.1 m.1) (h2 : SV w B z.2 m.2) : MZ w B [z] [m] := ⟨rfl, fun k k1 k2 => by
  obtain rfl : k = 0 := by simp at k1; omega
  exact ⟨h1, h2⟩⟩
theorem MZ.cells {w : World} {B : Nat} {zs : List (Value × Value)} {ms : List Mt} (h : MZ w B zs ms) : ∀ u ∈ zC zs, u.oneCell' = true := fun u hu => by
  obtain ⟨z, hz, hu⟩ := List.mem_flatMap.1 hu
  obtain ⟨k, hk, rfl⟩ := List.getElem_of_mem hz
  have := h.at_ k hk (by rw [← h.len]; exact hk)
  simp only [List.mem_cons, List.not_mem_nil, or_false] at hu
  rcases hu with rfl | rfl
  · exact this.1.one
  · exact this.2.one
/-- A slice of matches. -/
def MS (w : World) (B : Nat) (A : Option Addr) (ms : List Mt) : Prop := ∃ zs, CS w B A (zC zs) ∧ MZ w B zs ms
theorem MS.below {w w' : World} {B : Nat} {A : Option Addr} {ms : List Mt} (h : MS w B A ms) (hb : Below B w w') : MS w' B A ms := by
  obtain ⟨zs, h1, h2⟩ := h
  exact ⟨zs, h1.below hb, h2.below hb⟩
theorem MS.more {w : World} {B B' : Nat} {A : Option Addr} {ms : List Mt} (h : MS w B A ms) (hB : B ≤ B') : MS w B' A ms := by
  obtain ⟨zs, h1, h2⟩ := h
  exact ⟨zs, h1.more hB, h2.more hB⟩
theorem MS.up {w w' : World} {A : Option Addr} {ms : List Mt} (h : MS w w.heap.size A ms) (hb : Below w.heap.size w w') : MS w' w'.heap.size A ms := (h.below hb).more hb.size
theorem MS.nil (w : World) (B : Nat) (A : Option Addr) : MS w B A [] := ⟨[], CS.nil _ _ _, MZ.nil _ _⟩
/-- One of them. -/
theorem MS.at_ {w : World} {B : Nat} {A : Option Addr} {ms : List Mt} (h : MS w B A ms) (k : Nat) (hk : k < ms.length) : ∃ b o z0 z1, A = some ⟨b, o, none⟩ ∧ b < B ∧ w.cell? ⟨b, o + k * 2, none⟩ = some z0 ∧ w.cell? ⟨b, o + k * 2 + 1, none⟩ = some z1 ∧ SV w B z0 ms[k].1 ∧ SV w B z1 ms[k].2 := by
  obtain ⟨zs, h1, h2⟩ := h
  have hkz : k < zs.length := by rw [h2.len]; exact hk
  obtain ⟨b, o, e, hb, hc⟩ := h1 (by rw [zC_len]; omega)
  obtain ⟨c0, c1⟩ := zC_at zs k hkz
  exact ⟨b, o, _, _, e, hb, hc _ _ c0, hc _ _ c1, (h2.at_ k hkz hk).1, (h2.at_ k hkz hk).2⟩
theorem infoSp : (Try.prog.info? 26).map (fun i => (i.zero, i.size, i.bytes)) = some (some (.agg #[.int .i64 0, .int .i64 0, .int .i64 0, .int .i64 0]), 4, 32) := by kernel_rfl
theorem infoMt : (Try.prog.info? 60).map (fun i => (i.zero, i.size, i.bytes)) = some (some (.agg #[.slice none 0 0, .slice none 0 0]), 2, 48) := by kernel_rfl
theorem infoInt : (Try.prog.info? 3).map (fun i => (i.zero, i.size, i.bytes)) = some (some (.int .i64 0), 1, 8) := by kernel_rfl
/-- What append wants to know of an element's type. -/
structure El (tS tE : TypeId) (z : Value) (k by_ : Nat) : Prop where
  hu : Try.prog.underlying tS = some (.slice tE)
  hi : (Try.prog.info? tE).map (fun i => (i.zero, i.size, i.bytes)) = some (some z, k, by_)
  hz : z.cells.size = k
  hk : 0 < k
  hb : by_ ≤ 64
theorem elSp : El 28 26 (.agg #[.int .i64 0, .int .i64 0, .int .i64 0, .int .i64 0]) 4 32 := ⟨Try.underlying28, infoSp, rfl, by decide, by decide⟩
theorem elMt : El 22 60 (.agg #[.slice none 0 0, .slice none 0 0]) 2 48 := ⟨Try.underlying22, infoMt, rfl, by decide, by decide⟩
theorem elInt : El 35 3 (.int .i64 0) 1 8 := ⟨Try.underlying35, infoInt, rfl, by decide, by decide⟩
theorem run_appendR {tS tE : TypeId} {z : Value} {k by_ : Nat} (E : El tS tE z k by_) (w : World) (ty : TypeId) (base : Nat) (v : Value) (n : Nat) (xs : List Value) (hown : w.ownsRow base tE k v n xs) (A : Option Addr) (m c B : Nat) (news : List Value) (hnl : news.length = m * k) (hone : ∀ u ∈ news, u.oneCell' = true) (hm : CS w B A news) (hlen : n + m ≤ 1000000) (hbase : base ≤ w.heap.size) :
    ∃ v' w', (Builtin.append_ #[tS, tS] ty #[v, .slice A m c]).run Try.prog w = .ok v' w' ∧ w'.ownsRow base tE k v' (n + m) (xs ++ news) ∧ w.grownBy w' v.ownBlock ∧ (v'.ownBlock = v.ownBlock ∨ v'.ownBlock = some w.heap.size) := by
  obtain ⟨i0, hi0, hz0, hz1, hz2⟩ := info_parts E.hi
  have hb := E.hb
  have key : ∀ a : Addr, (∀ j u, news[j]? = some u → w.cell? (a.add j) = some u) → ∃ v' w', (Builtin.append_ #[tS, tS] ty #[v, .slice (some a) m c]).run Try.prog w = .ok v' w' ∧ w'.ownsRow base tE k v' (n + m) (xs ++ news) ∧ w.grownBy w' v.ownBlock ∧ (v'.ownBlock = v.ownBlock ∨ v'.ownBlock = some w.heap.size) := fun a ha => by
    obtain ⟨v', w', hr, h2, h3, _, h5⟩ := run_append_own_at (P := Try.prog) w base tS ty tE i0 z k by_ E.hu hi0 hz0 hz1 hz2 E.hz E.hk v n xs hown a m c news hnl ha hone (by unfold maxLen; omega) (by have : (n + m) * by_ ≤ 1000000 * 64 := Nat.mul_le_mul hlen hb; omega) hbase
    exact ⟨v', w', hr, h2, h3, h5⟩
  rcases Nat.eq_zero_or_pos m with h0 | h0
  · subst h0
    obtain rfl := List.eq_nil_of_length_eq_zero (by simpa using hnl)
    cases A with
    | some a => exact key a (fun j u hu => by simp at hu)
    | none =>
      refine ⟨v, w, ?_, by simpa using hown, ⟨rfl, rfl, rfl, Nat.le_refl _, fun _ _ _ => rfl⟩, .inl rfl⟩
      rcases hown.2 with ⟨rfl, _⟩ | ⟨g, cap, cur, rfl, _, _, hnc, _⟩
      · simp [Builtin.append_, run_underlying E.hu, sizeOf, typeInfo, hi0, Builtin.lenOf, Builtin.firstCells]
      · simp [Builtin.append_, run_underlying E.hu, sizeOf, typeInfo, hi0, Builtin.lenOf, Builtin.firstCells, hnc, storeCells]
  · obtain ⟨b, o, rfl, _, hc⟩ := hm (by rw [hnl]; exact Nat.mul_pos h0 E.hk)
    exact key ⟨b, o, none⟩ (fun j u hu => by rw [add_addr]; exact hc j u hu)
theorem wpList_appR {ops : Array Oper} {rest : List Oper} {o : Oper} {a : Act} {Q : Exit → Act → World → Prop} {tS tE : TypeId} {z : Value} {k by_ : Nat} (E : El tS tE z k by_) (w : World) (hgd : o.guard = none) (s x : Operand)
    (ho : o.op = .call { callee := .builtin .append, args := #[s, x], argTypes := #[tS, tS] })
    (base : Nat) (v : Value) (n : Nat) (xs : List Value) (hs : a.eval s = v) (hown : w.ownsRow base tE k v n xs) (A : Option Addr) (m c B : Nat) (news : List Value) (hx : a.eval x = .slice A m c) (hnl : news.length = m * k) (hone : ∀ u ∈ news, u.oneCell' = true) (hm : CS w B A news)
    (N : Nat) (hN : n + m = N) (hlen : N ≤ 1000000) (hbase : base ≤ w.heap.size)
    (h : ∀ v' w', w'.ownsRow base tE k v' N (xs ++ news) → w.grownBy w' v.ownBlock → (v'.ownBlock = v.ownBlock ∨ v'.ownBlock = some w.heap.size) → wpList Try.prog ops Q rest (a.put o.dst v') w') : wpList Try.prog ops Q (o :: rest) a w := by
  subst hN
  refine wpList_plain hgd fun K hK => ?_
  obtain ⟨v', w', hr, h2, h3, h4⟩ := run_appendR E w o.type base v n xs hown A m c B news hnl hone hm hlen hbase
  unfold Oper.wp execOp
  simp only [ho, resolve, invoke, builtin, Sem.run_bind, Sem.run_pure, Result.andThen_ok, List.map_toArray, List.map_cons, List.map_nil, hs, hx, hr]
  exact hK _ _ (h v' w' h2 h3 h4)
theorem step_appR {ops : Array Oper} {o : Oper} {a : Act} {K : Act → World → Prop} {Q : Exit → Act → World → Prop} {F : Prop} {tS tE : TypeId} {z : Value} {k by_ : Nat} (E : El tS tE z k by_) (w : World) (hgd : o.guard = none) (s x : Operand)
    (ho : o.op = .call { callee := .builtin .append, args := #[s, x], argTypes := #[tS, tS] })
    (base : Nat) (v : Value) (n : Nat) (xs : List Value) (hs : a.eval s = v) (hown : w.ownsRow base tE k v n xs) (A : Option Addr) (m c B : Nat) (news : List Value) (hx : a.eval x = .slice A m c) (hnl : news.length = m * k) (hone : ∀ u ∈ news, u.oneCell' = true) (hm : CS w B A news)
    (N : Nat) (hN : n + m = N) (hlen : N ≤ 1000000) (hbase : base ≤ w.heap.size)
    (h : ∀ v' w', w'.ownsRow base tE k v' N (xs ++ news) → w.grownBy w' v.ownBlock → (v'.ownBlock = v.ownBlock ∨ v'.ownBlock = some w.heap.size) → K (a.put o.dst v') w') :
    if Region.wanted o (yielded ops a.tmps) = true then Oper.wp Try.prog o a w K Q else F := by
  subst hN
  have hw : Region.wanted o (yielded ops a.tmps) = true := by simp [Region.wanted, hgd]
  rw [if_pos hw]
  obtain ⟨v', w', hr, h2, h3, h4⟩ := run_appendR E w o.type base v n xs hown A m c B news hnl hone hm hlen hbase
  unfold Oper.wp execOp
  simp only [ho, resolve, invoke, builtin, Sem.run_bind, Sem.run_pure, Result.andThen_ok, List.map_toArray, List.map_cons, List.map_nil, hs, hx, hr]
  exact h v' w' h2 h3 h4
/-- Matches in the making, in a row of their own. -/
structure MK (w0 wr : World) (v : Value) (zs : List (Value × Value)) (ms : List Mt) : Prop where
  own : wr.ownsRow w0.heap.size 60 2 v zs.length (zC zs)
  mz : MZ wr wr.heap.size zs ms
  kb : Below w0.heap.size w0 wr
  fz : ∀ z ∈ zs, (Fr w0.heap.size z.1 ∧ Fr w0.heap.size z.2) ∧ At (fun b => some b ≠ v.ownBlock) z.1 ∧ At (fun b => some b ≠ v.ownBlock) z.2
theorem MK.nil (w : World) : MK w w (.slice none 0 0) [] [] := ⟨⟨rfl, .inl ⟨rfl, rfl⟩⟩, MZ.nil _ _, Below.refl _ _, fun z h => by cases h⟩
theorem MK.below {w0 wr w' : World} {v : Value} {zs : List (Value × Value)} {ms : List Mt} (h : MK w0 wr v zs ms) (hb : Below wr.heap.size wr w') : MK w0 w' v zs ms :=
  ⟨own_below h.own hb, h.mz.up hb, h.kb.trans (hb.mono h.kb.size), h.fz⟩
theorem MK.out {w0 wr : World} {v : Value} {zs : List (Value × Value)} {ms : List Mt} (h : MK w0 wr v zs ms) : ∃ A c, v = .slice A ms.length c ∧ ms.length ≤ c ∧ c ≤ maxLen ∧ MS wr wr.heap.size A ms := by
  obtain ⟨A, c, e, h1, h2, h3, _⟩ := own_form h.own
  rw [h.mz.len] at e h1
  exact ⟨A, c, e, h1, h2, zs, h3, h.mz⟩
theorem MK.app {w0 wr X w4 : World} {v v' : Value} {zs : List (Value × Value)} {ms : List Mt} (h : MK w0 wr v zs ms) (hX : Below wr.heap.size wr X) (z : Value × Value) (m : Mt) (h1 : SV X X.heap.size z.1 m.1) (h2 : SV X X.heap.size z.2 m.2) (f1 : Fr wr.heap.size z.1) (f2 : Fr wr.heap.size z.2)
    (hown : w4.ownsRow w0.heap.size 60 2 v' (zs.length + 1) (zC zs ++ [z.1, z.2])) (hg : X.grownBy w4 v.ownBlock) (hv : v'.ownBlock = v.ownBlock ∨ v'.ownBlock = some X.heap.size) : MK w0 w4 v' (zs ++ [z]) (ms ++ [m]) := by
  obtain ⟨_, _, _, _, _, _, hob⟩ := own_form h.own
  have hXs := hX.size
  have h4s := hg.size
  have h0s := h.kb.size
  have same : ∀ b, b < X.heap.size → some b ≠ v.ownBlock → w4.heap[b]? = X.heap[b]? := fun b hb hne => hg.block b hb hne
  have nv : ∀ b, b < X.heap.size → some b ≠ v.ownBlock → some b ≠ v'.ownBlock := fun b hb hne e => by
    rcases hv with hv | hv
    · exact hne (by rw [← hv]; exact e)
    · rw [hv] at e
      injection e with e
      omega
  have nn : ∀ b, wr.heap.size ≤ b → some b ≠ v.ownBlock := fun b hb e => by have := (hob b e.symm).2; omega
  have old : ∀ {u : Value} {l : List Sp}, SV wr wr.heap.size u l → At (fun b => some b ≠ v.ownBlock) u → SV w4 w4.heap.size u l ∧ At (fun b => some b ≠ v'.ownBlock) u := fun s a =>
    ⟨s.move a fun g g1 g2 => ⟨(same g (by omega) g1).trans (hX.block g g2), by omega⟩, (a.and s.lt).imp fun b hb => nv b (by omega) hb.1⟩
  have new : ∀ {u : Value} {l : List Sp}, SV X X.heap.size u l → Fr wr.heap.size u → SV w4 w4.heap.size u l ∧ At (fun b => some b ≠ v'.ownBlock) u := fun s a =>
    ⟨s.move a fun g g1 g2 => ⟨same g g2 (nn g g1), by omega⟩, (At.and a s.lt).imp fun b hb => nv b hb.2 (nn b hb.1)⟩
  have kb : Below w0.heap.size w0 w4 := (h.kb.trans (hX.mono h.kb.size)).grown hg (by omega) fun k hk => (hob k hk).1
  refine ⟨?_, MZ.app ⟨h.mz.len, fun k k1 k2 => ?_⟩ (MZ.one (new h1 f1).1 (new h2 f2).1), kb, fun y hy => ?_⟩
  · rw [List.length_append, zC_app]
    exact hown
  · obtain ⟨s1, s2⟩ := h.mz.at_ k k1 k2
    obtain ⟨_, a1, a2⟩ := h.fz zs[k] (List.getElem_mem k1)
    exact ⟨(old s1 a1).1, (old s2 a2).1⟩
  · rcases List.mem_append.1 hy with hy | hy
    · obtain ⟨k, hk, rfl⟩ := List.getElem_of_mem hy
      obtain ⟨s1, s2⟩ := h.mz.at_ k hk (by rw [← h.mz.len]; exact hk)
      obtain ⟨f, a1, a2⟩ := h.fz zs[k] (List.getElem_mem hk)
      exact ⟨f, (old s1 a1).2, (old s2 a2).2⟩
    · rw [List.mem_singleton.1 hy]
      exact ⟨⟨f1.le h0s, f2.le h0s⟩, (new h1 f1).2, (new h2 f2).2⟩
end Go.Proofs.Ytafbjadlklcicaa
