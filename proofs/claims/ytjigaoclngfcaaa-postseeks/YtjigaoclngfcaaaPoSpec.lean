/- Hits: which are right; their bytes; that no others have these. Plain lists, no Go in sight. -/
import Derived.Test.YtjigaoclngfcaaaRdSp
namespace Go.Proofs.Ytjigaoclngfcaaa
set_option maxRecDepth 100000

abbrev HI := Int × List Int
/-- Numbers that rise behind one, below another. -/
def upI (a lim : Int) : List Int → Bool
  | [] => true
  | n :: t => decide (a < n) && (decide (n < lim) && upI n lim t)
def hitOk (a : Int) (h : HI) : Bool := decide (a < h.1) && (decide (h.1 < 1000) && (decide (0 < h.2.length) && upI (-1) 65536 h.2))
/-- Hits that are right, behind a document. -/
def rgt (a : Int) : List HI → Bool
  | [] => true
  | h :: t => hitOk a h && rgt h.1 t
def atOk (h : HI) : Bool := decide (0 < h.2.length) && upI (-1) 65536 h.2
theorem rgt_eq : ∀ (hs : List HI) (a : Int), rgt a hs = (hs.all atOk && upI a 1000 (hs.map (·.1)))
  | [], a => rfl
  | h :: t, a => by
    simp only [rgt, List.all_cons, List.map_cons, upI, rgt_eq t h.1, hitOk, atOk]
    cases decide (a < h.1) <;> cases decide (h.1 < 1000) <;> cases decide (0 < h.2.length) <;> cases upI (-1) 65536 h.2 <;> cases t.all atOk <;> simp
theorem upI_cons (a lim n : Int) (t : List Int) : upI a lim (n :: t) = (decide (a < n) && (decide (n < lim) && upI n lim t)) := rfl
theorem upI_some {a lim n : Int} {t : List Int} (h : upI a lim (n :: t) = true) : a < n ∧ n < lim ∧ upI n lim t = true := by
  simpa [upI_cons] using h
theorem upI_bound : ∀ (xs : List Int) (a lim : Int), upI a lim xs = true → ∀ x ∈ xs, a < x ∧ x < lim
  | [], _, _, _, x, hx => by simp at hx
  | n :: t, a, lim, h, x, hx => by
    obtain ⟨h1, h2, h3⟩ := upI_some h
    rcases List.mem_cons.1 hx with rfl | hx
    · exact ⟨h1, h2⟩
    · have := upI_bound t n lim h3 x hx
      omega
theorem rgt_some {a : Int} {h : HI} {t : List HI} (k : rgt a (h :: t) = true) : a < h.1 ∧ h.1 < 1000 ∧ 0 < h.2.length ∧ upI (-1) 65536 h.2 = true ∧ rgt h.1 t = true := by
  simp only [rgt, hitOk, Bool.and_eq_true, decide_eq_true_eq] at k
  obtain ⟨⟨a, b, c, d⟩, e⟩ := k
  exact ⟨a, b, c, d, e⟩

/-! bytes -/
/-- A difference as a number of 64 bits. -/
def df (n p : Int) : Nat := ((n - p) % 18446744073709551616).toNat
theorem df_lt (n p : Int) : df n p < 18446744073709551616 := by unfold df; omega
theorem df_eq (n p : Int) (h : p ≤ n) (k : n - p < 18446744073709551616) : df n p = (n - p).toNat := by unfold df; omega
abbrev B8' := List UInt8
/-- Places behind a place. -/
def eAt (p : Int) : List Int → B8'
  | [] => []
  | n :: t => enc (df n p) ++ eAt n t
def eHit (d : Int) (h : HI) : B8' := enc (df h.1 d) ++ (enc h.2.length ++ eAt 0 h.2)
/-- Hits behind a document. -/
def eBl (d : Int) : List HI → B8'
  | [] => []
  | h :: t => eHit d h ++ eBl h.1 t
theorem eAt_snoc : ∀ (xs : List Int) (p n : Int), eAt p (xs ++ [n]) = eAt p xs ++ enc (df n (xs.getLast?.getD p))
  | [], p, n => by simp [eAt]
  | x :: t, p, n => by
    rw [List.cons_append, eAt, eAt_snoc t x n, eAt, List.append_assoc]
    congr 3
    cases t with
    | nil => rfl
    | cons y u => simp [List.getLast?_cons]
def docOf (d : Int) (hs : List HI) : Int := (hs.map (·.1)).getLast?.getD d
theorem eBl_snoc : ∀ (hs : List HI) (d : Int) (h : HI), eBl d (hs ++ [h]) = eBl d hs ++ eHit (docOf d hs) h
  | [], d, h => by simp [eBl, docOf]
  | x :: t, d, h => by
    rw [List.cons_append, eBl, eBl_snoc t x.1 h, eBl, List.append_assoc]
    congr 2
    unfold docOf
    cases t with
    | nil => rfl
    | cons y u => simp [List.getLast?_cons]
theorem eAt_le : ∀ (xs : List Int) (p : Int), (eAt p xs).length ≤ 10 * xs.length
  | [], p => by simp [eAt]
  | n :: t, p => by
    have g := glen_le10 (df n p) (df_lt n p)
    unfold glen at g
    have ih := eAt_le t n
    simp only [eAt, List.length_append, List.length_cons]
    omega
theorem eHit_le (m : Nat) (hm : m ≤ 100000) (d : Int) (h : HI) (hl : h.2.length ≤ m) : (eHit d h).length ≤ 20 + 10 * m := by
  have g1 := glen_le10 (df h.1 d) (df_lt _ _)
  have g2 := glen_le10 h.2.length (by omega)
  unfold glen at g1 g2
  have g3 := eAt_le h.2 0
  simp only [eHit, List.length_append]
  omega
theorem eBl_le (m : Nat) (hm : m ≤ 100000) : ∀ (hs : List HI) (d : Int), (∀ h ∈ hs, h.2.length ≤ m) → (eBl d hs).length ≤ hs.length * (20 + 10 * m)
  | [], _, _ => by simp [eBl]
  | h :: t, d, hl => by
    have ih := eBl_le m hm t h.1 (fun x hx => hl x (by simp [hx]))
    have hk := eHit_le m hm d h (hl h (by simp))
    simp only [eBl, List.length_append, List.length_cons, Nat.add_mul, Nat.one_mul] at hk ⊢
    omega
/-- The j-th block's hits; a block's bytes behind a document; blocks in a given order. -/
def blk (hs : List HI) (j : Nat) : List HI := (hs.drop (4 * j)).take 4
def eB1 (d : Int) (bs : List HI) : B8' := enc (df (docOf 0 bs) d) ++ (enc (eBl d bs).length ++ eBl d bs)
def eBs (d : Int) : List (List HI) → B8'
  | [] => []
  | b :: t => eB1 d b ++ eBs (docOf 0 b) t
def lastB (d : Int) (bs : List (List HI)) : Int := (bs.map (docOf 0)).getLast?.getD d
theorem eBs_snoc : ∀ (bs : List (List HI)) (d : Int) (b : List HI), eBs d (bs ++ [b]) = eBs d bs ++ eB1 (lastB d bs) b
  | [], d, b => by simp [eBs, lastB]
  | x :: t, d, b => by
    rw [List.cons_append, eBs, eBs_snoc t (docOf 0 x) b, eBs, List.append_assoc]
    congr 2
    unfold lastB
    cases t with
    | nil => rfl
    | cons y u => simp [List.getLast?_cons]
def nbl (n : Nat) : Nat := (n + 3) / 4
def eP (hs : List HI) : B8' := enc hs.length ++ eBs 0 ((List.range (nbl hs.length)).map (blk hs))
end Go.Proofs.Ytjigaoclngfcaaa
