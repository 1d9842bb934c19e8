/- GlobMaps: what the laws' parts become with small signs. -/
import Derived.Test.YtdijicdlglnlmaaDoorGlGm
import Derived.Test.YtdijicdlglnlmaaDoorGlTxt
import Derived.Test.YtdijicdlglnlmaaDoorGlLm
namespace Go.Proofs.YtdijicdlglnlmaaDoor
open Go.RowKit
set_option maxRecDepth 100000

abbrev TX := LP × List UInt8 × GP
def lowT (x : TX) : TX := ((x.1.1, lowI x.1.2.1, x.1.2.2.1, x.1.2.2.2), (if x.2.2.1 then x.2.1 else 92 :: encS (lowI x.1.2.1).toNat), lowG x.2.2)
theorem nq_low {x : TX} (h : NQ x) : NQ (lowT x) := by
  rcases h with ⟨r, hr, rfl⟩ | rfl | rfl | rfl | rfl | ⟨lo, hi, h1, h2, h3, rfl⟩
  · have h := low_sign r hr
    have e : (((lowN r).toNat : Nat) : Int) = lowI (r : Int) := toN _ h.1
    refine .inl ⟨(lowN r).toNat, h.2, ?_⟩
    unfold lowT lowG sgn
    rw [e]
    rfl
  · exact .inr (.inl rfl)
  · exact .inr (.inr (.inl rfl))
  · exact .inr (.inr (.inr (.inl rfl)))
  · exact .inr (.inr (.inr (.inr (.inl rfl))))
  · exact .inr (.inr (.inr (.inr (.inr ⟨lo, hi, h1, h2, h3, rfl⟩))))
theorem allNQ_low {ts : List TX} (h : allNQ ts) : allNQ (ts.map lowT) := fun y hy => by
  obtain ⟨x, hx, rfl⟩ := List.mem_map.1 hy
  exact nq_low (h x hx)
theorem gps_low (ts : List TX) : gps (ts.map lowT) = (gps ts).map lowG := by
  unfold gps
  rw [List.map_map, List.map_map]
  rfl
theorem nq_bd {x : TX} (h : NQ x) : (0 ≤ x.1.2.1 ∧ x.1.2.1 ≤ 1114111) ∧ (0 ≤ x.2.2.2.1 ∧ x.2.2.2.1 ≤ 1114111) := by
  rcases h with ⟨r, hr, rfl⟩ | rfl | rfl | rfl | rfl | ⟨lo, hi, h1, h2, h3, rfl⟩
  · unfold isSign at hr
    unfold sgn
    simp only
    omega
  all_goals simp
theorem gps_bd {ts : List TX} (h : allNQ ts) : ∀ p ∈ gps ts, 0 ≤ p.2.1 ∧ p.2.1 ≤ 1114111 := fun p hp => by
  obtain ⟨x, hx, rfl⟩ := List.mem_map.1 hp
  exact (nq_bd (h x hx)).2
theorem pref_low (ts : List TX) (h : allNQ ts) : prefL (gps (ts.map lowT)) = mapL lowN (prefL (gps ts)) := by
  induction ts with
  | nil => rfl
  | cons x t ih =>
    have ih := ih (fun y hy => h y (List.mem_cons_of_mem _ hy))
    have hx := h x (List.mem_cons_self ..)
    rcases hx with ⟨r, hr, rfl⟩ | rfl | rfl | rfl | rfl | ⟨lo, hi, h1, h2, h3, rfl⟩
    · show putL (lowI (r : Int)) ++ prefL (gps (t.map lowT)) = mapL lowN (putL (r : Int) ++ prefL (gps t))
      rw [ih, putL_sign r hr, mapL_enc lowN r hr]
      rfl
    all_goals rfl
def lowW (ws : List Nat) : List Nat := ws.map fun r => (lowN r).toNat
theorem lowW_sign {ws : List Nat} (h : allSign ws) : allSign (lowW ws) := fun y hy => by
  obtain ⟨x, hx, rfl⟩ := List.mem_map.1 hy
  exact (low_sign x (h x hx)).2
theorem lowW_map (ws : List Nat) (h : allSign ws) : mapL lowN (encAll ws) = encAll (lowW ws) := by
  induction ws with
  | nil => rfl
  | cons r t ih =>
    have hr := h r (List.mem_cons_self ..)
    have hl := low_sign r hr
    rw [encAll_cons, mapL_enc lowN r hr, ih (fun y hy => h y (List.mem_cons_of_mem _ hy))]
    show _ = encS (lowN r).toNat ++ encAll (lowW t)
    rw [← putL_sign _ hl.2, toN _ hl.1]
theorem take_low (ts : List TX) (k : Nat) (h : k < ts.length) : (ts.take (k + 1)).map lowT = (ts.take k).map lowT ++ [lowT ts[k]] := by
  rw [List.take_succ_eq_append_getElem h, List.map_append]
  rfl
/-- What stands in memory behind the loop and Map. -/
def Ctx (w : World) (R R2 : Nat) (A A2 : Option Addr) (ts ts2 : List TX) : Prop := UT w ∧ GlobW w R (gps ts) ∧ GlobW w R2 (gps ts2) ∧ CS w w.heap.size A (qCells ts) ∧ CS w w.heap.size A2 (qCells ts2)
theorem Ctx.keep {w w' : World} {R R2 : Nat} {A A2 : Option Addr} {ts ts2 : List TX} (h : Ctx w R R2 A A2 ts ts2) (hb : Below w.heap.size w w') : Ctx w' R R2 A A2 ts ts2 :=
  ⟨ut_keep h.1 hb, h.2.1.keep hb, h.2.2.1.keep hb, h.2.2.2.1.up hb, h.2.2.2.2.up hb⟩
/-- The law's match of parts and the signs of a word, as contracts side by side. -/
theorem lmatch_is (ts : List TX) (rs : List Nat) (xb : Bool) (h : Hid (allNQ ts ∧ matchB (gps ts) (rs.map fun r : Nat => (r : Int)) = xb)) (A A2 : Option Addr) (n c m c2 : Nat) (w : World) (HN : Hid (n = ts.length)) (HM : Hid (m = rs.length)) (hn : n ≤ 100) (hm : m ≤ 1000) (h1 : n ≤ c) (h2 : c ≤ 9223372036854775807) (h3 : m ≤ c2) (h4 : c2 ≤ 9223372036854775807)
    (hC : CS w w.heap.size A (qCells ts)) (hU : CS w w.heap.size A2 (iCells rs)) :
    Calls Tryd.prog 15 #[.slice A n c, .slice A2 m c2] w fun e w' => e = .returned (.bool xb) ∧ Below w.heap.size w w' := by
  obtain ⟨ha, hx⟩ := h.out
  subst hx
  exact lmatch_any ts (rs.map fun r : Nat => (r : Int)) A A2 n c m c2 w ha HN (by show _ = _; rw [List.length_map]; exact HM.out) hn hm h1 h2 h3 h4 hC (by rw [show uCells (rs.map fun r : Nat => (r : Int)) = iCells rs by simp [uCells, iCells]]; exact hU)
theorem low_is (sg : Int) (l : Int) (h : Hid (0 ≤ sg ∧ sg ≤ 1114111 ∧ lowI sg = l)) (w : World) : Calls Tryd.prog 18 #[.int .i32 sg] w fun e w' => e = .returned (.int .i32 l) ∧ w = w' := by
  obtain ⟨h1, h2, h3⟩ := h.out
  subst h3
  exact low_any sg (by omega) (by omega) w
theorem umap_is (l d : List UInt8) (h : Hid (mapL lowN l = d ∧ l.length ≤ 100000)) (w : World) (hT : UT w) :
    Calls Tryd.prog 19 #[.string (strOf l), .func (.func 18) #[] #[]] w fun e w' => e = .returned (.string (strOf d)) ∧ Below w.heap.size w w' := by
  obtain ⟨h1, h2⟩ := h.out
  subst h1
  exact map_low l w hT (by omega)
end Go.Proofs.YtdijicdlglnlmaaDoor
