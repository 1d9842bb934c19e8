/- What package xml answers, as plain functions over bytes. No Go in sight. -/
import Derived.Test.YtbehfhdkdekjfaaDoorMapSpec
namespace Go.Proofs.YtbehfhdkdekjfaaDoor
abbrev L8 := List UInt8

def isBl (c : UInt8) : Bool := c == 32 || c == 9 || c == 10 || c == 13
def bgN (c : UInt8) : Bool := (decide (65 ≤ c.toNat) && decide (c.toNat ≤ 90)) || (decide (97 ≤ c.toNat) && decide (c.toNat ≤ 122)) || c.toNat == 95 || c.toNat == 58 || decide (128 ≤ c.toNat)
def inN (c : UInt8) : Bool := bgN c || (decide (48 ≤ c.toNat) && decide (c.toNat ≤ 57)) || c.toNat == 45 || c.toNat == 46
def hdN (l : L8) : Bool := match l with | [] => false | c :: _ => bgN c
def nameL (l : L8) : L8 × L8 := if hdN l then (l.takeWhile inN, l.dropWhile inN) else ([], l)
/-- take. -/
def tk (p l : L8) : Option L8 := if p.isPrefixOf l then some (l.drop p.length) else none
def skipB (l : L8) : L8 := l.dropWhile isBl
def hasB (l : L8) : Bool := match l with | [] => false | c :: _ => isBl c
/-- upTo. -/
def upL (p : L8) : L8 → Option (L8 × L8)
  | [] => if p.isEmpty then some ([], []) else none
  | c :: t => if p.isPrefixOf (c :: t) then some ([], (c :: t).drop p.length) else (upL p t).map fun x => (c :: x.1, x.2)
def remarkL (l : L8) : Option L8 := (upL [45, 45] l).bind fun x => tk [62] x.2
def instrL (l : L8) : Option L8 :=
  if (nameL l).1 = [] ∨ mapL lowN (nameL l).1 = [120, 109, 108] then none
  else match tk [63, 62] (nameL l).2 with
    | some r => some r
    | none => if hasB (nameL l).2 then (upL [63, 62] (skipB (nameL l).2)).map (·.2) else none
/-- A digit's number, to the base. -/
def digV (base : Nat) (c : UInt8) : Option Nat :=
  if 48 ≤ c.toNat ∧ c.toNat ≤ 57 then (if c.toNat - 48 < base then some (c.toNat - 48) else none)
  else if 97 ≤ c.toNat ∧ c.toNat ≤ 122 then (if c.toNat - 87 < base then some (c.toNat - 87) else none)
  else if 65 ≤ c.toNat ∧ c.toNat ≤ 90 then (if c.toNat - 55 < base then some (c.toNat - 55) else none)
  else none
/-- The number that digits tell, if it has at most 31 bits. -/
def numG (base : Nat) : L8 → Nat → Option Nat
  | [], n => some n
  | c :: t, n => match digV base c with
    | none => none
    | some d => if n * base + d ≤ 2147483647 then numG base t (n * base + d) else none
def numX (base : Nat) (d : L8) : Option Nat := if d = [] then none else numG base d 0
def okSign (n : Nat) : Bool := n == 9 || n == 10 || n == 13 || (decide (32 ≤ n) && decide (isSign n) && n != 65534 && n != 65535)
def numberL (base : Nat) (l : L8) : Option (Nat × L8) :=
  match upL [59] l with
  | none => none
  | some (d, r) => match numX base d with
    | none => none
    | some n => if okSign n then some (n, r) else none
/-- A reference behind its &: the sign, and what is behind. -/
def refL (l : L8) : Option (Nat × L8) :=
  match tk [108, 116, 59] l with
  | some r => some (60, r)
  | none => match tk [103, 116, 59] l with
  | some r => some (62, r)
  | none => match tk [97, 109, 112, 59] l with
  | some r => some (38, r)
  | none => match tk [97, 112, 111, 115, 59] l with
  | some r => some (39, r)
  | none => match tk [113, 117, 111, 116, 59] l with
  | some r => some (34, r)
  | none => match tk [35, 120] l with
  | some r => numberL 16 r
  | none => match tk [35] l with
  | some r => numberL 10 r
  | none => none
/-- A value behind the quote that also ends it. -/
def valL (q : UInt8) : Nat → L8 → L8 → Option (L8 × L8)
  | 0, _, _ => none
  | _ + 1, [], _ => none
  | f + 1, c :: t, acc =>
    if c = q then some (acc, t)
    else if c = 60 then none
    else if c = 38 then (match refL t with | none => none | some (n, r) => valL q f r (acc ++ encS n))
    else valL q f t (acc ++ [c])
abbrev At := L8 × L8
def attrL (l : L8) : Option (At × L8) :=
  if (nameL l).1 = [] then none
  else match tk [61] (skipB (nameL l).2) with
    | none => none
    | some r => match skipB r with
      | [] => none
      | c :: t => if c = 34 ∨ c = 39 then (valL c (t.length + 1) t []).map fun x => (((nameL l).1, x.1), x.2) else none
def attrsL : Nat → L8 → List At → Option (List At × L8)
  | 0, _, _ => none
  | f + 1, l, acc =>
    if [62].isPrefixOf (skipB l) ∨ [47].isPrefixOf (skipB l) then some (acc, skipB l)
    else if hasB l = false then none
    else match attrL (skipB l) with
      | none => none
      | some (a, r) => if acc.any (fun b => b.1 == a.1) then none else attrsL f r (acc ++ [a])

structure Nd where
  name : L8
  text : L8
  attrs : List At
  parent : Int
  level : Int
  fin : Int
  deriving DecidableEq, Repr
structure St where
  rest : L8
  nodes : List Nd
  opn : List Nat
  text : L8
  deriving DecidableEq
def listS (s : St) (name text : L8) (attrs : List At) : St :=
  { s with nodes := s.nodes ++ [{ name, text, attrs, parent := (s.opn.getLast?.map fun x : Nat => (x : Int)).getD (-1), level := s.opn.length, fin := s.nodes.length + 1 }] }
def endText (s : St) : St := if s.text = [] then s else { listS s [] s.text [] with text := [] }
def goOn (s : St) (t : L8) : Except Int St := if t ≠ [] ∧ s.nodes.length = 16384 then .error 3 else .ok { s with text := s.text ++ t }
def beginS (s : St) : Except Int St :=
  if (nameL s.rest).1 = [] then .error 11
  else match attrsL ((nameL s.rest).2.length + 1) (nameL s.rest).2 [] with
    | none => .error 11
    | some (ats, r) =>
      if s.opn.length = 100 then .error 12
      else if s.nodes.length = 16384 then .error 3
      else match tk [47, 62] r with
        | some r' => .ok { listS s (nameL s.rest).1 [] ats with rest := r' }
        | none => match tk [62] r with
          | some r' => .ok { listS s (nameL s.rest).1 [] ats with rest := r', opn := s.opn ++ [s.nodes.length] }
          | none => .error 11
def setFin (ns : List Nd) (k : Nat) (v : Int) : List Nd := ns.modify k fun n => { n with fin := v }
def endS (s : St) : Except Int St :=
  match s.opn.getLast? with
  | none => .error 11
  | some k => match s.nodes[k]? with
    | none => .error 11
    | some n =>
      if (nameL s.rest).1 ≠ n.name then .error 11
      else match tk [62] (skipB (nameL s.rest).2) with
        | none => .error 11
        | some r => .ok { s with rest := r, nodes := setFin s.nodes k s.nodes.length, opn := s.opn.dropLast }
def ofO (s : St) (o : Option L8) : Except Int St := match o with | none => .error 11 | some r => .ok { s with rest := r }
def markS (s : St) : Except Int St :=
  match tk [60, 33, 45, 45] s.rest with
  | some r => ofO s (remarkL r)
  | none => match tk [60, 63] s.rest with
  | some r => ofO s (instrL r)
  | none => match tk [60, 47] s.rest with
  | some r => endS { s with rest := r }
  | none => beginS { s with rest := s.rest.drop 1 }
/-- part, a byte at a time. -/
def partS (s : St) : Except Int St :=
  match tk [60, 33, 91, 67, 68, 65, 84, 65, 91] s.rest with
  | some r => (match upL [93, 93, 62] r with | none => .error 11 | some (t, r') => goOn { s with rest := r' } t)
  | none => match s.rest with
    | [] => .error 11
    | c :: t =>
      if c = 60 then markS (endText s)
      else if c = 38 then (match refL t with | none => .error 11 | some (n, r) => goOn { s with rest := r } (encS n))
      else if [93, 93, 62].isPrefixOf s.rest then .error 11
      else goOn { s with rest := t } [c]
def partsS : Nat → St → Except Int St
  | 0, _ => .error 99
  | f + 1, s => if s.opn = [] then .ok s else match partS s with | .error e => .error e | .ok s' => partsS f s'
def betweenL : Nat → L8 → Option L8
  | 0, _ => none
  | f + 1, l =>
    match tk [60, 33, 45, 45] (skipB l) with
    | some r => (match remarkL r with | none => none | some r' => betweenL f r')
    | none => match tk [60, 63] (skipB l) with
    | some r => (match instrL r with | none => none | some r' => betweenL f r')
    | none => some (skipB l)
def headingL (l : L8) : Option L8 :=
  match tk [60, 63, 120, 109, 108] l with
  | none => some l
  | some b => if hasB b then (upL [63, 62] b).map (·.2) else some l
def docL (l : L8) : Except Int (List Nd) :=
  match headingL l with
  | none => .error 11
  | some l1 => match betweenL (l1.length + 1) l1 with
    | none => .error 11
    | some l2 => match tk [60] l2 with
      | none => .error 11
      | some l3 => match beginS { rest := l3, nodes := [], opn := [], text := [] } with
        | .error e => .error e
        | .ok s => match partsS (s.rest.length + 1) s with
          | .error e => .error e
          | .ok s => match betweenL (s.rest.length + 1) s.rest with
            | none => .error 11
            | some r => if r = [] then .ok s.nodes else .error 11
def checkL : Nat → L8 → Int
  | 0, _ => 0
  | f + 1, l => if l = [] then 0 else if (nextN l).2 = 0 then 10 else if okSign (nextN l).1 then checkL f (l.drop (nextN l).2) else 11
def parseX (l : L8) : Except Int (List Nd) :=
  if 65536 < l.length then .error 3
  else if checkL l.length l ≠ 0 then .error (checkL l.length l) else docL l
end Go.Proofs.YtbehfhdkdekjfaaDoor
