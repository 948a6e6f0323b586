import PyProof.Rows.All
import KE.DataMinMax
import Wide.All
import OpenK.AllK
import Wide.FinOn
import KE.KStateDown
import HandS.ForMost
import HandS.Exc
import HandS.ExcOwn
import HandS.TryOnly
import HandS.WordsExc
import HandS.Flow
import HandS.Wide
import HandS.Gcd
import HandS.IsInst
import HandS.Zip
import HandS.Rev
import HandS.Codes
import HandS.CallSlots
import HandS.Defaults
import HandS.Walk
import HandS.Iter
import HandS.Conv
import KE.GoesEnum
import KE.GoesMore
import HandS.TupAny
import HandS.TupMul
import KE.DataCmp
import HandS.SortInts
import HandS.SortRule
import HandS.NamedTupSort
import PyProof.TupleOfSeq
import HandS.SetFor
import HandS.Strs
import HandS.Style
import HandS.SortKw
import HandS.Deep
import KE.KTupSum
import HandS.SetBool
import HandS.HeadHook1
import HandS.ExcIs
import HandS.Dict
import HandS.Head0
import HandS.Head1
import HandS.Head2
import HandS.HeadEnd
import HandS.HeadHook2
import PySem.Challenge.RW_bothwheels_k13_whole_first_and_last_back
import HandS.Head3
set_option linter.all false
set_option maxRecDepth 100000
/-! Bw: a small language of data: values, expressions, statements, and what they come to. -/
namespace Bw
open PySem

inductive D where
  | non | bl (b : Bool) | int (i : Int) | str (x : Str) | tup (xs : List D) | lst (xs : List D) | ref (i : Nat) | scr (ns : List Int) | fn (k : Nat)
  deriving Inhabited
/-- an object of the store: a list, locked while a loop goes over it -/
inductive SO where
  | lst (lk : Bool) (xs : List D)
abbrev Sto := List SO
abbrev En := List (Option D)
/-- what comes of an expression -/
inductive R (α : Type) where
  | ok (a : α) (s : Sto) | exc (k : Str) (s : Sto) | fail
def R.bind {α β : Type} (r : R α) (f : α → Sto → R β) : R β := match r with
  | .ok a s => f a s
  | .exc k s => .exc k s
  | .fail => .fail
/-- no exception leaves -/
def quiet {α : Type} (r : R α) : R α := match r with
  | .exc _ _ => .fail
  | r => r
inductive Bop | add | sub | mul | fdiv | mod | pow | addL
  deriving DecidableEq
inductive Cop | eq | ne | lt | le | gt | ge | isn | notn | mem | nmem
  deriving DecidableEq
inductive Bi | len | int | abs | tuple | list | listR | sum | all | any | sorted | min | max | str | gcd | lcm | comb
  deriving DecidableEq
inductive Me | index | count
  deriving DecidableEq
inductive Ty | int | bool | str | list | tuple
  deriving DecidableEq

mutual
inductive C where
  | bad
  | cst (d : D)
  | var (i : Nat)
  | glb (x : Str)
  | bin (o : Bop) (a b : C)
  | neg (a : C)
  | cmp (o : Cop) (a b : C)
  | chain (o p : Cop) (a b c : C)
  | and (es : List C)
  | or (es : List C)
  | not (a : C)
  | ife (t a b : C)
  | call (k : Nat) (es : List C)
  | callX (f : C) (es : List C)
  | callK (k : Nat) (pm : List Nat) (es : List C)
  | bi (f : Bi) (es : List C)
  | isi (a : C) (ts : List Ty)
  | tup (es : List C)
  | lst (m : Bool) (es : List C)
  | ix (a i : C)
  | sl (a : C) (lo hi : Option C)
  | comp (m : Bool) (e : C) (own : List Nat) (t : T) (it : It) (ifs : Option C)
  | sset1 (a : C)
  | lset (a : C)
  | meth (f : Me) (a b : C)
  | mind (a b : C)
  | rvs (a : C)
  | sset (e : C) (own : List Nat) (t : T) (it : It)
  | rng (tp m : Bool) (es : List C)
  | comp2 (m : Bool) (e : C) (own : List Nat) (t : T) (it : It) (own1 : List Nat) (t1 : T) (it1 : It)
inductive T where
  | nm (i : Nat)
  | tup (ts : List T)
  | sub (a i : C)
  | bad
inductive It where
  | sq (a : C)
  | rg1 (a : C)
  | rg2 (a b : C)
  | zip (a b : C)
  | enu (a : C)
  | enu2 (a b : C)
  | rev (a : C)
  | bad
end
instance : Inhabited C := ⟨.bad⟩
/-- what a handler makes of a caught error: a value, or the error's own attribute; in a list or not -/
inductive HE where
  | one (d : Option D)
  | lst (ds : List (Option D))
  deriving Inhabited
inductive S where
  | bad
  | aug (i : Nat) (o : Bop) (c : C)
  | orb (f a : Nat) (c : C)
  | ex (c : C)
  | app (a e : C)
  | set (t : T) (c : C)
  | ife (c : C) (a b : List S)
  | whl (c : C) (b : List S)
  | for_ (t : T) (it : It) (b : List S)
  | ret (c : C)
  | rais (k : Str)
  | tryR (b : List S) (cs : List (Str × Nat × Option Nat × HE)) (ks : List Str)
  | pass | brk | cnt
instance : Inhabited S := ⟨.bad⟩

/-! ### values -/
mutual
/-- no object of the store is named -/
def clean : D → Bool
  | .ref _ => false
  | .scr _ => false
  | .fn _ => true
  | .tup xs => cleans xs
  | .lst xs => cleans xs
  | .non => true
  | .bl _ => true
  | .int _ => true
  | .str _ => true
def cleans : List D → Bool
  | [] => true
  | x :: xs => clean x && cleans xs
end
mutual
def toP : D → Option PyData
  | .non => some .none
  | .bl b => some (.bool b)
  | .int i => some (.int i)
  | .str x => some (.str x)
  | .tup xs => match toPs xs with
    | some l => some (.tuple l)
    | none => none
  | .lst xs => match toPs xs with
    | some l => some (.list l)
    | none => none
  | .ref _ => none
  | .scr _ => none
  | .fn _ => none
def toPs : List D → Option (List PyData)
  | [] => some []
  | x :: xs => match toP x with
    | some y => match toPs xs with
      | some l => some (y :: l)
      | none => none
    | none => none
end
mutual
def beqD : D → D → Bool
  | .non, .non => true
  | .bl a, .bl b => decide (a = b)
  | .int a, .int b => decide (a = b)
  | .str a, .str b => decide (a = b)
  | .tup a, .tup b => beqDs a b
  | .lst a, .lst b => beqDs a b
  | .fn a, .fn b => decide (a = b)
  | _, _ => false
def beqDs : List D → List D → Bool
  | [], [] => true
  | x :: xs, y :: ys => beqD x y && beqDs xs ys
  | _, _ => false
end
mutual
theorem beqD_eq : ∀ {a b : D}, beqD a b = true → a = b
  | .non, .non, _ => rfl
  | .bl a, .bl b, h => by rw [of_decide_eq_true h]
  | .int a, .int b, h => by rw [of_decide_eq_true h]
  | .str a, .str b, h => by rw [of_decide_eq_true h]
  | .fn a, .fn b, h => by rw [of_decide_eq_true h]
  | .tup a, .tup b, h => by rw [beqDs_eq (a := a) (b := b) h]
  | .lst a, .lst b, h => by rw [beqDs_eq (a := a) (b := b) h]
theorem beqDs_eq : ∀ {a b : List D}, beqDs a b = true → a = b
  | [], [], _ => rfl
  | x :: xs, y :: ys, h => by
    have h2 := Bool.and_eq_true_iff.mp (show (beqD x y && beqDs xs ys) = true from h)
    rw [beqD_eq h2.1, beqDs_eq h2.2]
end
def lim : Nat := 16777216
/-- where a loop's items stand: nowhere that may change; or in the store, from the front or from the end -/
inductive Md where
  | bk (b : Bool) | all (l : List (Nat × List D))
abbrev Src := Option (Nat × Md)
/-- the lists in the store hold just these items -/
def chkA (l : List (Nat × List D)) (s : Sto) : Bool := l.all fun p => match s[p.1]? with
  | some (.lst _ xs) => beqDs xs p.2
  | none => false
/-- the list in the store is of n still, and d stands at turn k -/
def chk (r : Src) (n k : Nat) (d : Option D) (s : Sto) : Bool := match r with
  | none => true
  | some (_, .all l) => chkA l s
  | some (i, .bk b) => match s[i]? with
    | some (.lst _ xs) => decide (xs.length = n) && (match d with
      | none => true
      | some d => match xs[if b then n - 1 - k else k]? with
        | some d' => beqD d d'
        | none => false)
    | none => false
/-- the items of a list or a tuple -/
def items (s : Sto) : D → Option (List D)
  | .tup xs => some xs
  | .lst xs => some xs
  | .ref i => match s[i]? with
    | some (.lst _ xs) => some xs
    | _ => none
  | _ => none
def truth (s : Sto) : D → Option Bool
  | .non => some false
  | .bl b => some b
  | .int i => some (i != 0)
  | .str x => if x.length ≤ lim then some ((x.length : Int) != 0) else none
  | .tup xs => some (!xs.isEmpty)
  | .lst xs => some (!xs.isEmpty)
  | .ref i => match s[i]? with
    | some (.lst _ xs) => some (!xs.isEmpty)
    | _ => none
  | _ => none
def ty : D → Option Ty
  | .bl _ => some .bool
  | .int _ => some .int
  | .str _ => some .str
  | .tup _ => some .tuple
  | .lst _ => some .list
  | .ref _ => some .list
  | .scr _ => some .list
  | _ => none
def Ty.is : Ty → Ty → Bool
  | .bool, .bool => true
  | .bool, .int => true
  | .int, .int => true
  | .str, .str => true
  | .list, .list => true
  | .tuple, .tuple => true
  | _, _ => false
def isAny (d : D) (ts : List Ty) : Option Bool := match d with
  | .non => some false
  | d => match ty d with
    | some t => some (ts.any fun u => t.is u)
    | none => none
def getI : List D → Option (List Int)
  | [] => some []
  | .int i :: xs => match getI xs with
    | some l => some (i :: l)
    | none => none
  | _ :: _ => none
def getB : List D → Option (List Bool)
  | [] => some []
  | .bl i :: xs => match getB xs with
    | some l => some (i :: l)
    | none => none
  | _ :: _ => none
/-- a place in a list of n -/
def place (n : Nat) (i : Int) : Option Nat := if 0 ≤ i then (if i < n then some i.toNat else none) else if -(n : Int) ≤ i then some (i + n).toNat else none
def cutI (n d : Nat) : Option Int → Nat
  | none => d
  | some v => if v < 0 then (v + n).toNat else min v.toNat n
def cut {α : Type} (xs : List α) (lo hi : Option Int) : List α := (xs.drop (cutI xs.length 0 lo)).take (cutI xs.length xs.length hi - cutI xs.length 0 lo)
def eqD (a b : D) : Option Bool := match toP a, toP b with
  | some x, some y => if SeqAt.shaped x && SeqAt.shaped y then some (PyData.eqv x y) else none
  | _, _ => none
def wide (i : Int) : Bool := decide (i.natAbs.log2 < 400000)
def small (i : Int) : Bool := decide (-(2 ^ 64) < i ∧ i < 2 ^ 64)
def okMul (i j : Int) : Bool := small i || (small j || (wide i && wide j))
def okDiv (j : Int) : Bool := decide (0 < j ∧ j.natAbs.log2 < 9000)
def okDivN (j : Int) : Bool := decide (j ≠ 0 ∧ j.natAbs < 1073741824)
/-- a new list, in the store or as a value -/
def mkL (m : Bool) (xs : List D) (s : Sto) : R D :=
  if xs.length ≤ lim then (if m then (if cleans xs then .ok (.ref s.length) (s ++ [.lst false xs]) else .fail) else .ok (.lst xs) s) else .fail
def lstOf (s : Sto) : D → Option (List D)
  | .lst xs => some xs
  | .ref i => match s[i]? with
    | some (.lst _ xs) => some xs
    | none => none
  | _ => none
def catL (m : Bool) (a b : D) (s : Sto) : R D := match lstOf s a, lstOf s b with
  | some xs, some ys => mkL m (xs ++ ys) s
  | _, _ => .fail
def binD (o : Bop) (a b : D) (s : Sto) : R D := match o, a, b with
  | .add, .int i, .int j => .ok (.int (i + j)) s
  | .sub, .int i, .int j => .ok (.int (i - j)) s
  | .mul, .int i, .int j => if okMul i j then .ok (.int (i * j)) s else .fail
  | .fdiv, .int i, .int j => if okDiv j then .ok (.int (i / j)) s else if okDivN j then .ok (.int (i.fdiv j)) s else .fail
  | .mod, .int i, .int j => if 0 < j then .ok (.int (i % j)) s else if j ≠ 0 then .ok (.int (i.fmod j)) s else .fail
  | .pow, .int i, .int j => if decide (0 ≤ j ∧ j ≤ 1000000 ∧ i.natAbs < 2 ^ 64) then .ok (.int (i ^ j.toNat)) s else .fail
  | .add, .str x, .str y => if x.length + y.length ≤ lim then .ok (.str (x ++ y)) s else .fail
  | .add, .lst xs, b => catL false (.lst xs) b s
  | .add, .ref i, b => catL false (.ref i) b s
  | .addL, a, b => catL true a b s
  | .add, .tup xs, .tup ys => if xs.length + ys.length ≤ lim then .ok (.tup (xs ++ ys)) s else .fail
  | .mul, .tup xs, .int k => if decide (xs.isEmpty = false ∧ 2 ≤ k ∧ k ≤ 1000 ∧ xs.length ≤ 1000) then .ok (.tup (List.replicate k.toNat xs).flatten) s else .fail
  | .mul, .lst xs, .int k => if decide (-(2 ^ 63) ≤ k ∧ k < 2 ^ 63 ∧ xs.length * k.toNat ≤ lim) then .ok (.lst (List.replicate k.toNat xs).flatten) s else .fail
  | _, _, _ => .fail
/-- b holds a -/
def memD (a b : D) : Option Bool := match toP a, toP b with
  | some x, some (.list ys) => if SeqAt.shaped x && SeqAt.shaped (.list ys) then some (ys.any fun z => PyData.eqv z x) else none
  | some x, some (.tuple ys) => if SeqAt.shaped x && SeqAt.shaped (.tuple ys) then some (ys.any fun z => PyData.eqv z x) else none
  | _, _ => none
/-- the numbers of a range -/
def rng3 (i j c : Int) : Option (List Int) := if decide (c ≠ 0 ∧ c.natAbs < 1073741824) && Builtin.Range.small i j c && decide ((Builtin.Range.rangeSize i j c).toNat ≤ lim ∧ Builtin.Range.rangeSize i j c = ((Builtin.Range.rangeSize i j c).toNat : Int)) then some ((List.range (Builtin.Range.rangeSize i j c).toNat).map fun k : Nat => i + (k : Int) * c) else none
def rngD : List D → Option (List Int)
  | [.int n] => rng3 0 n 1
  | [.int i, .int j] => rng3 i j 1
  | [.int i, .int j, .int c] => rng3 i j c
  | _ => none
/-- tuples of alike data, in order -/
def ltD (xs ys : List D) : Option Bool := match toPs xs, toPs ys with
  | some ps, some qs => if W.alikeAll ps qs && decide (PyData.depthAll ps ≤ 50) then some (W.dataLt (.tuple ps) (.tuple qs)) else none
  | _, _ => none
def cmpD (o : Cop) (a b : D) : Option Bool := match o with
  | .mem => memD a b
  | .nmem => match memD a b with
    | some x => some (!x)
    | none => none
  | .eq => eqD a b
  | .ne => match eqD a b with
    | some x => some (!x)
    | none => none
  | .lt => match a, b with
    | .int i, .int j => some (decide (i < j))
    | .tup xs, .tup ys => ltD xs ys
    | _, _ => none
  | .le => match a, b with
    | .int i, .int j => some (decide (i ≤ j))
    | _, _ => none
  | .gt => match a, b with
    | .int i, .int j => some (decide (j < i))
    | _, _ => none
  | .ge => match a, b with
    | .int i, .int j => some (decide (j ≤ i))
    | _, _ => none
  | .isn => match b, a with
    | .non, .non => some true
    | .non, _ => some false
    | _, _ => none
  | .notn => match b, a with
    | .non, .non => some false
    | .non, _ => some true
    | _, _ => none
/-- the greatest, the least -/
def maxL : Int → List Int → Int
  | m, [] => m
  | m, x :: xs => maxL (if x > m then x else m) xs
def minL : Int → List Int → Int
  | m, [] => m
  | m, x :: xs => minL (if x < m then x else m) xs
mutual
def ofP : PyData → Option D
  | .none => some .non
  | .bool b => some (.bl b)
  | .int i => some (.int i)
  | .str x => some (.str x)
  | .tuple xs => match ofPs xs with
    | some l => some (.tup l)
    | none => none
  | .list xs => match ofPs xs with
    | some l => some (.lst l)
    | none => none
  | .dict _ => none
def ofPs : List PyData → Option (List D)
  | [] => some []
  | x :: xs => match ofP x with
    | some y => match ofPs xs with
      | some l => some (y :: l)
      | none => none
    | none => none
end
def allAlike (l : List PyData) : Bool := l.all fun x => (match x with
  | .none => false
  | _ => true) && l.all fun y => W.alike x y
/-- the greatest, the least of several -/
def bestD (mx : Bool) (ds : List D) : Option D := match getI ds with
  | some (i :: l) => some (.int (if mx then maxL i l else minL i l))
  | some [] => none
  | none => match toPs ds with
    | some (p :: ps) => if allAlike (p :: ps) && (SeqAt.shaped (.list (p :: ps)) && decide (PyData.depthAll (p :: ps) ≤ 50)) then ofP (if mx then W.maxD p ps else W.minD p ps) else none
    | _ => none
/-- a list of the store as it stands -/
def rs (s : Sto) : D → D
  | .ref i => match s[i]? with
    | some (.lst _ xs) => .lst xs
    | none => .ref i
  | d => d
def orC : Option Bool → Option Bool → Option Bool
  | some k, _ => some k
  | none, z => z
def cmpS (o : Cop) (x y : D) (s : Sto) : Option Bool := orC (cmpD o x y) (cmpD o (rs s x) (rs s y))
/-- in order -/
def insI (x : Int) : List Int → List Int
  | [] => [x]
  | y :: ys => if x ≤ y then x :: y :: ys else y :: insI x ys
def srtI : List Int → List Int
  | [] => []
  | x :: xs => insI x (srtI xs)
/-- tuples of numbers, in order -/
def tupI (l : List Int) : D := .tup (l.map .int)
def getT : List D → Option (List (List Int))
  | [] => some []
  | .tup xs :: r => match getI xs, getT r with
    | some (i :: l), some ls => some ((i :: l) :: ls)
    | _, _ => none
  | _ :: _ => none
def lexL : List Int → List Int → Bool
  | [], [] => false
  | [], _ :: _ => true
  | _ :: _, [] => false
  | x :: xs, y :: ys => if x = y then lexL xs ys else decide (x < y)
def insT (x : List Int) : List (List Int) → List (List Int)
  | [] => [x]
  | y :: ys => if lexL y x then y :: insT x ys else x :: y :: ys
def srtT : List (List Int) → List (List Int)
  | [] => []
  | x :: xs => insT x (srtT xs)
/-- sorted: of numbers, of tuples of numbers -/
def srtD (ds : List D) : Option (List D) := match getI ds with
  | some l => some ((srtI l).map .int)
  | none => match getT ds with
    | some ls => some ((srtT ls).map tupI)
    | none => none
/-- .. each once -/
def insU (x : Int) : List Int → List Int
  | [] => [x]
  | y :: ys => if x < y then x :: y :: ys else if x = y then y :: ys else y :: insU x ys
def srtU : List Int → List Int
  | [] => []
  | x :: xs => insU x (srtU xs)
def biD (f : Bi) (vs : List D) (s : Sto) : R D := match f, vs with
  | .len, [.str x] => if x.length ≤ lim then .ok (.int x.length) s else .fail
  | .len, [.scr ns] => .ok (.int ns.length) s
  | .len, [d] => match items s d with
    | some xs => .ok (.int xs.length) s
    | none => .fail
  | .int, [.int i] => .ok (.int i) s
  | .int, [.bl b] => .ok (.int (if b then 1 else 0)) s
  | .abs, [.int i] => .ok (.int (if i < 0 then -i else i)) s
  | .tuple, [d] => match items s d with
    | some xs => .ok (.tup xs) s
    | none => .fail
  | .list, [d] => match items s d with
    | some xs => mkL false xs s
    | none => .fail
  | .listR, [.scr ns] => mkL true (ns.map .int) s
  | .listR, [d] => match items s d with
    | some xs => mkL true xs s
    | none => .fail
  | .sum, [d] => match items s d with
    | some xs => (match getI xs with
      | some l => .ok (.int l.sum) s
      | none => .fail)
    | none => .fail
  | .all, [.lst xs] => match getB xs with
    | some l => .ok (.bl (l.all id)) s
    | none => .fail
  | .any, [.lst xs] => match getB xs with
    | some l => .ok (.bl (l.any id)) s
    | none => .fail
  | .sorted, [d] => match items s d with
    | some xs => (match srtD xs with
      | some es => mkL false es s
      | none => .fail)
    | none => .fail
  | .gcd, [.int i, .int j] => .ok (.int ((Nat.gcd i.natAbs j.natAbs : Nat) : Int)) s
  | .lcm, [.int i, .int j] => if decide (i.natAbs < 2 ^ 64 ∧ j.natAbs < 2 ^ 64) then .ok (.int (((Nat.lcm 1 i.natAbs).lcm j.natAbs : Nat) : Int)) s else .fail
  | .comb, [.int i, .int j] => if decide (0 ≤ j ∧ j ≤ i ∧ i ≤ 4096 ∧ (Builtin.Math.fallingProduct i (min j (i - j)).toNat / Builtin.Math.fallingProduct (min j (i - j)) (min j (i - j)).toNat).natAbs.log2 < 400000) then .ok (.int (Builtin.Math.fallingProduct i (min j (i - j)).toNat / Builtin.Math.fallingProduct (min j (i - j)) (min j (i - j)).toNat)) s else .fail
  | .max, [d] => match items s d with
    | some xs => (match bestD true xs with
      | some v => .ok v s
      | none => .fail)
    | none => .fail
  | .min, [d] => match items s d with
    | some xs => (match bestD false xs with
      | some v => .ok v s
      | none => .fail)
    | none => .fail
  | .max, [.int i, .int j] => .ok (.int (if j > i then j else i)) s
  | .min, [.int i, .int j] => .ok (.int (if j < i then j else i)) s
  | _, _ => .fail
/-- min(a, default=b) -/
def mindD (a b : D) (s : Sto) : R D := match items s a with
  | some [] => .ok b s
  | some (x :: xs) => (match bestD false (x :: xs) with
    | some v => .ok v s
    | none => .fail)
  | none => .fail
/-- the numbers of a tuple, as a set -/
def setI : D → Option (List Int)
  | .tup xs => match getI xs with
    | some l => if l.length < 1000 then some l else none
    | none => none
  | _ => none
def idxP (ps : List PyData) (q : PyData) : Nat → Option Nat
  | n => match ps with
    | [] => none
    | p :: ps => if PyData.eqv p q then some n else idxP ps q (n + 1)
def isL (s : Sto) : D → Option (List D)
  | .lst xs => some xs
  | .ref i => match s[i]? with
    | some (.lst _ xs) => some xs
    | none => none
  | _ => none
def methD (f : Me) (a b : D) (s : Sto) : R D := match f with
  | .index => match isL s a with
    | some xs => (match toPs xs, toP b with
      | some ps, some q => if SeqAt.shaped (.list ps) && SeqAt.shaped q then (match idxP ps q 0 with
        | some j => .ok (.int j) s
        | none => .fail) else .fail
      | _, _ => .fail)
    | none => .fail
  | .count => match a, b with
    | .tup xs, .int k => (match getI xs with
      | some l => .ok (.int (l.count k)) s
      | none => .fail)
    | .lst xs, .int k => (match getI xs with
      | some l => .ok (.int (l.count k)) s
      | none => .fail)
    | _, _ => .fail
def rvsD (a : D) (s : Sto) : R D := match isL s a with
  | some xs => .ok (.lst xs.reverse) s
  | none => .fail
def ixD (a i : D) (s : Sto) : R D := match a, i with
  | .str x, .int k => if x.length ≤ lim then (match place x.cps.toList.length k with
    | some j => (match x.cps.toList[j]? with
      | some c => .ok (.str ⟨#[c]⟩) s
      | none => .fail)
    | none => .fail) else .fail
  | .scr ns, .int k => match place ns.length k with
    | some j => (match ns[j]? with
      | some n => .ok (.int n) s
      | none => .fail)
    | none => .fail
  | d, .int k => match items s d with
    | some xs => (match place xs.length k with
      | some j => (match xs[j]? with
        | some v => .ok v s
        | none => .fail)
      | none => .fail)
    | none => .fail
  | _, _ => .fail
def slD (a : D) (lo hi : Option Int) (s : Sto) : R D := match a with
  | .tup xs => .ok (.tup (cut xs lo hi)) s
  | .lst xs => .ok (.lst (cut xs lo hi)) s
  | .scr ns => .ok (.lst ((cut ns lo hi).map .int)) s
  | .ref i => match s[i]? with
    | some (.lst _ xs) => .ok (.lst (cut xs lo hi)) s
    | _ => .fail
  | _ => .fail
def sto (s : Sto) (i : Nat) (k : Int) (v : D) : Option Sto := match s[i]? with
  | some (.lst false xs) => if clean v then (match place xs.length k with
    | some j => some (s.set i (.lst false (xs.set j v)))
    | none => none) else none
  | _ => none
def rangeD (a b : Int) : Option (List D) := if decide (-(2 ^ 62) ≤ a ∧ a < 2 ^ 62 ∧ -(2 ^ 62) ≤ b ∧ b < 2 ^ 62) then some ((List.range (b - a).toNat).map fun i => .int (a + (i : Nat))) else none
def zipD : List D → List D → List D
  | x :: xs, y :: ys => .tup [x, y] :: zipD xs ys
  | _, _ => []
def enumD : Nat → List D → List D
  | _, [] => []
  | n, x :: xs => .tup [.int n, x] :: enumD (n + 1) xs
def wit : D → List D → List (Nat × List D)
  | .ref i, xs => [(i, xs)]
  | _, _ => []
/-- no name of own slots -/
def wipeE (e : En) : List Nat → En
  | [] => e
  | v :: vs => (wipeE e vs).set v none

/-! ### expressions -/
abbrev CF := Nat → List D → Sto → R D
/-- in the parameters' order -/
def pick {α : Type} : List Nat → List α → Option (List α)
  | [], _ => some []
  | i :: is, vs => match vs[i]? with
    | some v => (match pick is vs with
      | some l => some (v :: l)
      | none => none)
    | none => none
section
variable (ev : C → En → Sto → R D)
def evs : List C → En → Sto → R (List D)
  | [], _, s => .ok [] s
  | c :: cs, e, s => (ev c e s).bind fun x s1 => (evs cs e s1).bind fun xs s2 => .ok (x :: xs) s2
def evT (c : C) (e : En) (s : Sto) : R Bool := (ev c e s).bind fun x s1 => match truth s1 x with
  | some b => .ok b s1
  | none => .fail
def evAnd : List C → En → Sto → R D
  | [], _, _ => .fail
  | [c], e, s => ev c e s
  | c :: d :: cs, e, s => (ev c e s).bind fun x s1 => match truth s1 x with
    | some true => evAnd (d :: cs) e s1
    | some false => .ok x s1
    | none => .fail
def evOr : List C → En → Sto → R D
  | [], _, _ => .fail
  | [c], e, s => ev c e s
  | c :: d :: cs, e, s => (ev c e s).bind fun x s1 => match truth s1 x with
    | some false => evOr (d :: cs) e s1
    | some true => .ok x s1
    | none => .fail
def evO : Option C → En → Sto → R (Option Int)
  | none, _, s => .ok none s
  | some c, e, s => (ev c e s).bind fun x s1 => match x with
    | .int i => .ok (some i) s1
    | _ => .fail
mutual
def asg : T → D → En → Sto → R En
  | .nm i, v, e, s => .ok (e.set i (some v)) s
  | .tup ts, .tup vs, e, s => if ts.length = vs.length then asgs ts vs e s else .fail
  | .sub a i, v, e, s => (ev a e s).bind fun x s1 => (ev i e s1).bind fun k s2 => match x, k with
    | .ref j, .int n => (match sto s2 j n v with
      | some s3 => .ok e s3
      | none => .fail)
    | _, _ => .fail
  | _, _, _, _ => .fail
def asgs : List T → List D → En → Sto → R En
  | [], [], e, s => .ok e s
  | t :: ts, v :: vs, e, s => (asg t v e s).bind fun e1 s1 => asgs ts vs e1 s1
  | _, _, _, _ => .fail
end
/-- what a loop goes over: where it stands, the items -/
def evIt : It → En → Sto → R (Src × List D)
  | .sq a, e, s => (ev a e s).bind fun x s1 => match x with
    | .ref i => (match s1[i]? with
      | some (.lst _ xs) => .ok (some (i, .bk false), xs) s1
      | _ => .fail)
    | .scr ns => .ok (none, ns.map .int) s1
    | d => (match items s1 d with
      | some xs => .ok (none, xs) s1
      | none => .fail)
  | .rg1 a, e, s => (ev a e s).bind fun x s1 => match x with
    | .int i => (match rangeD 0 i with
      | some xs => .ok (none, xs) s1
      | none => .fail)
    | _ => .fail
  | .rg2 a b, e, s => (ev a e s).bind fun x s1 => (ev b e s1).bind fun y s2 => match x, y with
    | .int i, .int j => (match rangeD i j with
      | some xs => .ok (none, xs) s2
      | none => .fail)
    | _, _ => .fail
  | .zip a b, e, s => (ev a e s).bind fun x s1 => (ev b e s1).bind fun y s2 => match x, y with
    | .tup xs, .tup ys => .ok (none, zipD xs ys) s2
    | .lst xs, .lst ys => .ok (none, zipD xs ys) s2
    | x, y => (match items s2 x, items s2 y with
      | some xs, some ys => .ok (some (0, .all (wit x xs ++ wit y ys)), zipD xs ys) s2
      | _, _ => .fail)
  | .enu a, e, s => (ev a e s).bind fun x s1 => match x with
    | .lst xs => .ok (none, enumD 0 xs) s1
    | .tup xs => .ok (none, enumD 0 xs) s1
    | x => (match isL s1 x with
      | some xs => .ok (some (0, .all (wit x xs)), enumD 0 xs) s1
      | none => .fail)
  | .enu2 a b, e, s => (ev a e s).bind fun x s1 => (ev b e s1).bind fun y s2 => match y, x with
    | .int k, .lst xs => if decide (0 ≤ k ∧ k < 1000) then .ok (none, enumD k.toNat xs) s2 else .fail
    | .int k, .tup xs => if decide (0 ≤ k ∧ k < 1000) then .ok (none, enumD k.toNat xs) s2 else .fail
    | _, _ => .fail
  | .rev a, e, s => (ev a e s).bind fun x s1 => match x with
    | .tup xs => .ok (none, xs.reverse) s1
    | .lst xs => .ok (none, xs.reverse) s1
    | .ref i => (match s1[i]? with
      | some (.lst _ xs) => .ok (some (i, .bk true), xs.reverse) s1
      | _ => .fail)
    | _ => .fail
  | .bad, _, _ => .fail
/-- one more at the end of the list that is being made -/
def push (s : Sto) (i : Nat) (y : D) : Option Sto := match s[i]? with
  | some (.lst true xs) => if clean y && decide (xs.length < lim) then some (s.set i (.lst true (xs ++ [y]))) else none
  | _ => none
/-- a comprehension's turns; the list that is being made stands in the store -/
def evComp (ix : Nat) (el : C) (t : T) (ifs : Option C) (rho : En) (r : Src) (n : Nat) : Nat → List D → Sto → R Unit
  | k, [], s => if chk r n k none s then .ok () s else .fail
  | k, x :: xs, s => if chk r n k (some x) s then (quiet (asg ev t x rho s)).bind fun e1 s1 => (match ifs with
    | none => R.ok true s1
    | some c => evT ev c e1 s1).bind fun b s2 => match b with
      | true => (ev el e1 s2).bind fun y s3 => match push s3 ix y with
        | some s4 => evComp ix el t ifs rho r n (k + 1) xs s4
        | none => .fail
      | false => evComp ix el t ifs rho r n (k + 1) xs s2
    else .fail
/-- .. of two fors -/
def evComp2 (ix : Nat) (el : C) (t : T) (own1 : List Nat) (t1 : T) (it1 : It) (rho : En) (r : Src) (n : Nat) : Nat → List D → Sto → R Unit
  | k, [], s => if chk r n k none s then .ok () s else .fail
  | k, x :: xs, s => if chk r n k (some x) s then (quiet (asg ev t x rho s)).bind fun e1 s1 => (evIt ev it1 e1 s1).bind fun p s2 =>
      (evComp ev ix el t1 none (wipeE e1 own1) p.1 p.2.length 0 p.2 s2).bind fun _ s3 => evComp2 ix el t own1 t1 it1 rho r n (k + 1) xs s3
    else .fail
/-- the turns of a comprehension that makes a set of numbers -/
def evSC (el : C) (t : T) (rho : En) (r : Src) (n : Nat) : Nat → List D → List Int → Sto → R (List Int)
  | k, [], acc, s => if chk r n k none s then .ok acc s else .fail
  | k, x :: xs, acc, s => if chk r n k (some x) s then (quiet (asg ev t x rho s)).bind fun e1 s1 => (ev el e1 s1).bind fun y s3 => match y with
      | .int i => if acc.length < 4000 then evSC el t rho r n (k + 1) xs (i :: acc) s3 else .fail
      | _ => .fail
    else .fail
end
def evE (cf : CF) (gl : Str → Option D) : Nat → C → En → Sto → R D
  | 0, _, _, _ => .fail
  | n + 1, c, e, s => match c with
    | .bad => .fail
    | .cst d => .ok d s
    | .var i => match e[i]? with
      | some (some v) => .ok v s
      | _ => .fail
    | .glb x => match gl x with
      | some v => .ok v s
      | none => .fail
    | .bin o a b => (evE cf gl n a e s).bind fun x s1 => (evE cf gl n b e s1).bind fun y s2 => binD o x y s2
    | .neg a => (evE cf gl n a e s).bind fun x s1 => match x with
      | .int i => .ok (.int (-i)) s1
      | _ => .fail
    | .cmp o a b => (evE cf gl n a e s).bind fun x s1 => (evE cf gl n b e s1).bind fun y s2 => match cmpS o x y s2 with
      | some k => .ok (.bl k) s2
      | none => .fail
    | .chain o p a b c => (evE cf gl n a e s).bind fun x s1 => (evE cf gl n b e s1).bind fun y s2 => match cmpD o x y with
      | some true => (evE cf gl n c e s2).bind fun z s3 => match cmpD p y z with
        | some k => .ok (.bl k) s3
        | none => .fail
      | some false => .ok (.bl false) s2
      | none => .fail
    | .and es => evAnd (evE cf gl n) es e s
    | .or es => evOr (evE cf gl n) es e s
    | .not a => (evT (evE cf gl n) a e s).bind fun b s1 => .ok (.bl (!b)) s1
    | .ife t a b => (evT (evE cf gl n) t e s).bind fun k s1 => match k with
      | true => evE cf gl n a e s1
      | false => evE cf gl n b e s1
    | .call k es => (evs (evE cf gl n) es e s).bind fun vs s1 => cf k vs s1
    | .callX f es => (evE cf gl n f e s).bind fun x s1 => match x with
      | .fn k => (evs (evE cf gl n) es e s1).bind fun vs s2 => cf k vs s2
      | _ => .fail
    | .callK k pm es => (evs (evE cf gl n) es e s).bind fun vs s1 => match pick pm vs with
      | some us => cf k us s1
      | none => .fail
    | .bi f es => (evs (evE cf gl n) es e s).bind fun vs s1 => biD f vs s1
    | .isi a ts => (evE cf gl n a e s).bind fun x s1 => match isAny x ts with
      | some b => .ok (.bl b) s1
      | none => .fail
    | .tup es => (evs (evE cf gl n) es e s).bind fun vs s1 => if vs.length ≤ lim then .ok (.tup vs) s1 else .fail
    | .lst m es => (evs (evE cf gl n) es e s).bind fun vs s1 => mkL m vs s1
    | .ix a i => (evE cf gl n a e s).bind fun x s1 => (evE cf gl n i e s1).bind fun k s2 => ixD x k s2
    | .sl a lo hi => (evE cf gl n a e s).bind fun x s1 => (evO (evE cf gl n) lo e s1).bind fun l s2 => (evO (evE cf gl n) hi e s2).bind fun h s3 => slD x l h s3
    | .comp m el own t it ifs => (evIt (evE cf gl n) it e s).bind fun p s1 => (quiet (evComp (evE cf gl n) s1.length el t ifs (wipeE e own) p.1 p.2.length 0 p.2 (s1 ++ [.lst true []]))).bind fun _ s2 => match s2[s1.length]? with
      | some (.lst _ xs) => if m then .ok (.ref s1.length) (s2.set s1.length (.lst false xs)) else .ok (.lst xs) (s2.take s1.length)
      | none => .fail
    | .comp2 m el own t it own1 t1 it1 => (evIt (evE cf gl n) it e s).bind fun p s1 => (quiet (evComp2 (evE cf gl n) s1.length el t own1 t1 it1 (wipeE e own) p.1 p.2.length 0 p.2 (s1 ++ [.lst true []]))).bind fun _ s2 => match s2[s1.length]? with
      | some (.lst _ xs) => if m then .ok (.ref s1.length) (s2.set s1.length (.lst false xs)) else .ok (.lst xs) (s2.take s1.length)
      | none => .fail
    | .rng tp m es => (evs (evE cf gl n) es e s).bind fun vs s1 => match rngD vs with
      | some zs => if tp then .ok (.tup (zs.map .int)) s1 else mkL m (zs.map .int) s1
      | none => .fail
    | .sset1 a => (evE cf gl n a e s).bind fun x s1 => match setI x with
      | some l => if (srtU l).length < 64 then mkL false ((srtU l).map .int) s1 else .fail
      | none => .fail
    | .lset a => (evE cf gl n a e s).bind fun x s1 => match setI x with
      | some l => .ok (.int (srtU l).length) s1
      | none => .fail
    | .meth f a b => (evE cf gl n a e s).bind fun x s1 => match isL s1 x with
      | some _ => (evE cf gl n b e s1).bind fun y s2 => methD f x y s2
      | none => .fail
    | .mind a b => (evE cf gl n a e s).bind fun x s1 => (evE cf gl n b e s1).bind fun y s2 => mindD x y s2
    | .rvs a => (evE cf gl n a e s).bind fun x s1 => rvsD x s1
    | .sset el own t it => (evIt (evE cf gl n) it e s).bind fun p s1 => (quiet (evSC (evE cf gl n) el t (wipeE e own) p.1 p.2.length 0 p.2 [] s1)).bind fun acc s2 => if (srtU acc).length < 64 then mkL false ((srtU acc).map .int) s2 else .fail

/-! ### statements -/
inductive Fl where
  | next | brk | cnt | ret (v : D)
inductive RS where
  | ok (f : Fl) (e : En) (s : Sto) | exc (k : Str) (e : En) (s : Sto) | fail
def R.to {α : Type} (r : R α) (e : En) (f : α → Sto → RS) : RS := match r with
  | .ok a s => f a s
  | .exc k s => .exc k e s
  | .fail => .fail
section
variable (ev : C → En → Sto → R D) (ex : S → En → Sto → RS)
def exs : List S → En → Sto → RS
  | [], e, s => .ok .next e s
  | c :: cs, e, s => match ex c e s with
    | .ok .next e1 s1 => exs cs e1 s1
    | r => r
/-- a for's turns -/
def exFor (t : T) (b : List S) (r : Src) (n : Nat) : Nat → List D → En → Sto → RS
  | k, [], e, s => if chk r n k none s then .ok .next e s else .fail
  | k, x :: xs, e, s => if chk r n k (some x) s then (quiet (asg ev t x e s)).to e fun e1 s1 => match exs ex b e1 s1 with
    | .ok .next e2 s2 => exFor t b r n (k + 1) xs e2 s2
    | .ok .cnt e2 s2 => exFor t b r n (k + 1) xs e2 s2
    | .ok .brk e2 s2 => .ok .next e2 s2
    | r => r
    else .fail
def exWhl (c : C) (b : List S) : Nat → En → Sto → RS
  | 0, _, _ => .fail
  | n + 1, e, s => (evT ev c e s).to e fun k s1 => match k with
    | false => .ok .next e s1
    | true => match exs ex b e s1 with
      | .ok .next e2 s2 => exWhl c b n e2 s2
      | .ok .cnt e2 s2 => exWhl c b n e2 s2
      | .ok .brk e2 s2 => .ok .next e2 s2
      | r => r
end
/-- the places gone through, each once: z = {}; while a not in z: z[a] = True; a = c; return tuple(list(z)) -/
def orbL (ev : C → En → Sto → R D) (c : C) (ai : Nat) : Nat → List Int → Int → En → Sto → RS
  | 0, _, _, _, _ => .fail
  | n + 1, ks, a, e, s => if decide (a ∈ ks) then .ok (.ret (.tup (ks.map .int))) e s else if decide (ks.length < 100000) then (match ev c e s with
    | .ok (.int b) s1 => orbL ev c ai n (ks ++ [a]) b (e.set ai (some (.int b))) s1
    | _ => .fail) else .fail
def HE.val (p : Option D) : HE → Option D
  | .one (some d) => some d
  | .one none => p
  | .lst ds => match hs ds with
    | some l => some (.lst l)
    | none => none
where hs : List (Option D) → Option (List D)
  | [] => some []
  | some d :: r => (match hs r with
    | some l => some (d :: l)
    | none => none)
  | none :: r => match p, hs r with
    | some d, some l => some (d :: l)
    | _, _ => none
/-- the suite of a clause, done: the error's name stands for nothing behind it -/
def HE.run (h : HE) (i : Nat) (o : Option Nat) (p : Option D) (e : En) (s : Sto) : RS := match h.val p with
  | some v => if i < e.length then (match o with
    | none => .ok (.ret v) e s
    | some j => if j < e.length ∧ j ≠ i then .ok .next ((e.set j (some v)).set i none) s else .fail) else .fail
  | none => .fail
def exS (ev : C → En → Sto → R D) (w : Nat) : Nat → S → En → Sto → RS
  | 0, _, _, _ => .fail
  | n + 1, c, e, s => match c with
    | .bad => .fail
    | .ex c => (ev c e s).to e fun _ s1 => .ok .next e s1
    | .aug i o c => match e[i]? with
      | some (some (.int x)) => (ev c e s).to e fun y s1 => (match o, y with
        | .add, .int y => .ok .next (e.set i (some (.int (x + y)))) s1
        | .sub, .int y => .ok .next (e.set i (some (.int (x - y)))) s1
        | _, _ => .fail)
      | _ => .fail
    | .orb f a c => match e[a]?, e[f]? with
      | some (some (.int x)), some none => orbL ev c a w [] x e s
      | _, _ => .fail
    | .app a c => (ev a e s).to e fun x s1 => match x with
      | .ref i => (match s1[i]? with
        | some (.lst _ _) => (ev c e s1).to e fun v s2 => (match s2[i]? with
          | some (.lst false xs) => if clean v && decide (xs.length < lim) then .ok .next e (s2.set i (.lst false (xs ++ [v]))) else .fail
          | _ => .fail)
        | none => .fail)
      | _ => .fail
    | .set t c => (ev c e s).to e fun v s1 => (quiet (asg ev t v e s1)).to e fun e1 s2 => .ok .next e1 s2
    | .ife c a b => (evT ev c e s).to e fun k s1 => match k with
      | true => exs (exS ev w n) a e s1
      | false => exs (exS ev w n) b e s1
    | .whl c b => exWhl ev (exS ev w n) c b w e s
    | .for_ t it b => (evIt ev it e s).to e fun p s1 => exFor ev (exS ev w n) t b p.1 p.2.length 0 p.2 e s1
    | .ret c => (ev c e s).to e fun v s1 => .ok (.ret v) e s1
    | .rais k => .exc k e s
    | .tryR b cs ks => match exs (exS ev w n) b e s with
      | .exc y e1 s1 => if y ∈ ks then (match cs.lookup y with
        | some (i, o, h) => h.run i o none e1 s1
        | none => .exc y e1 s1) else .fail
      | r => r
    | .pass => .ok .next e s
    | .brk => .ok .brk e s
    | .cnt => .ok .cnt e s

/-! ### defs -/
structure F where
  name : Str
  ps : List Str
  ns : List Str
  body : List S
  n : Nat := 100
  w : Nat := 100000
mutual
def deep (m : Nat) : D → Bool
  | .ref i => decide (i < m)
  | .tup xs => deeps m xs
  | .lst xs => deeps m xs
  | _ => true
def deeps (m : Nat) : List D → Bool
  | [] => true
  | x :: xs => deep m x && deeps m xs
end
/-- what was made within is left behind -/
def back (m : Nat) (v : D) (s : Sto) : R D := if deep m v then .ok v (s.take m) else .ok v s
def callF (gl : Str → Option D) (P : List F) : Nat → CF
  | 0 => fun _ _ _ => .fail
  | d + 1 => fun k vs s => match P[k]? with
    | none => .fail
    | some f => if vs.length = f.ps.length then
        (match exs (exS (evE (callF gl P d) gl f.n) f.w f.n) f.body (vs.map some ++ List.replicate (f.ns.length - vs.length) none) s with
        | .ok (.ret v) _ s1 => back s.length v s1
        | .ok .next _ s1 => back s.length .non s1
        | .exc k _ s1 => .exc k (s1.take s.length)
        | _ => .fail) else .fail
end Bw

set_option Elab.async false
set_option linter.all false
set_option maxRecDepth 100000
set_option maxHeartbeats 4000000
/-! Bw: how the small language lies over the heap -/
namespace Bw
open PySem PySem.Spec PyProof.Rows L2
section
variable (K : PySem.W.Frag) (fa : Nat → Option Addr)
mutual
inductive RV (rho : List Addr) (H : Hp) : V → D → Prop
  | non : RV rho H .non .non
  | bl (b : Bool) : RV rho H (.bl b) (.bl b)
  | int (i : Int) : RV rho H (.int i) (.int i)
  | str (x : Str) : RV rho H (.str x) (.str x)
  | ref {i : Nat} {a : Addr} : rho[i]? = some a → RV rho H (.ref a) (.ref i)
  | tup {a : Addr} {xs : List V} {ds : List D} : H a = some (.tup xs) → a ∉ rho → RVs rho H xs ds → RV rho H (.ref a) (.tup ds)
  | lst {a : Addr} {xs : List V} {ds : List D} : H a = some (.lst xs) → a ∉ rho → RVs rho H xs ds → RV rho H (.ref a) (.lst ds)
  | scr {a : Addr} {o : Obj} {ns : List Int} : H a = some (.frz o (.lst (ns.map V.int))) → a ∉ rho → RV rho H (.ref a) (.scr ns)
  | fn {k : Nat} {a : Addr} : fa k = some a → RV rho H (.ref a) (.fn k)
inductive RVs (rho : List Addr) (H : Hp) : List V → List D → Prop
  | nil : RVs rho H [] []
  | cons {v : V} {vs : List V} {d : D} {ds : List D} : RV rho H v d → RVs rho H vs ds → RVs rho H (v :: vs) (d :: ds)
end
end
structure Evo (rho : List Addr) (H : Hp) (rho' : List Addr) (H' : Hp) : Prop where
  ext : ∃ l, rho' = rho ++ l ∧ ∀ a ∈ l, H a = none
  same : ∀ a o, H a = some o → a ∉ rho → H' a = some o
  there : ∀ a, H' a = none → H a = none
theorem Evo.refl (rho : List Addr) (H : Hp) : Evo rho H rho H := ⟨⟨[], by simp, fun _ h => nomatch h⟩, fun _ _ h _ => h, fun _ h => h⟩
theorem Evo.out {rho rho' : List Addr} {H H' : Hp} (e : Evo rho H rho' H') {a : Addr} {o : HO} (h : H a = some o) (n : a ∉ rho) : a ∉ rho' := by
  obtain ⟨l, rfl, hl⟩ := e.ext
  intro z
  rcases List.mem_append.mp z with z | z
  · exact n z
  · rw [hl a z] at h; cases h
theorem Evo.trans {r1 r2 r3 : List Addr} {H1 H2 H3 : Hp} (a : Evo r1 H1 r2 H2) (b : Evo r2 H2 r3 H3) : Evo r1 H1 r3 H3 := by
  refine ⟨?_, fun x o h n => b.same x o (a.same x o h n) (a.out h n), fun x h => a.there x (b.there x h)⟩
  obtain ⟨l, rfl, hl⟩ := a.ext
  obtain ⟨m, rfl, hm⟩ := b.ext
  refine ⟨l ++ m, by simp, fun x hx => ?_⟩
  rcases List.mem_append.mp hx with z | z
  · exact hl x z
  · exact a.there x (hm x z)
theorem Evo.at {r1 r2 : List Addr} {H1 H2 : Hp} (e : Evo r1 H1 r2 H2) {i : Nat} {a : Addr} (h : r1[i]? = some a) : r2[i]? = some a := by
  obtain ⟨l, rfl, _⟩ := e.ext
  rw [List.getElem?_append_left (List.getElem?_eq_some_iff.mp h).1]
  exact h
/-- something new is laid, as a value -/
theorem Evo.laid {rho : List Addr} {H : Hp} {p : Addr} {o : HO} (n : H p = none) : Evo rho H rho (upd H p o) := by
  refine ⟨⟨[], by simp, fun _ h => nomatch h⟩, fun a u h _ => by rw [upd_ne (ne_of_none h n)]; exact h, fun a h => ?_⟩
  by_cases e : a = p
  · rw [e]; exact n
  · rw [upd_ne e] at h; exact h
/-- .. into the store -/
theorem Evo.grown {rho : List Addr} {H : Hp} {p : Addr} {o : HO} (n : H p = none) : Evo rho H (rho ++ [p]) (upd H p o) := by
  refine ⟨⟨[p], rfl, fun a h => by rw [List.mem_singleton.mp h]; exact n⟩, (Evo.laid n).same, (Evo.laid (rho := rho) n).there⟩
/-- an object of the store is written -/
theorem Evo.wrote {rho : List Addr} {H : Hp} {p : Addr} {o u : HO} (m : p ∈ rho) (h0 : H p = some u) : Evo rho H rho (upd H p o) := by
  refine ⟨⟨[], by simp, fun _ h => nomatch h⟩, fun a u h n => ?_, fun a h => ?_⟩
  · rw [upd_ne (fun e => n (by rw [e]; exact m))]; exact h
  · by_cases e : a = p
    · rw [e, upd_same] at h; cases h
    · rw [upd_ne e] at h; exact h
section
variable {K : PySem.W.Frag} {fa : Nat → Option Addr} {rho rho' : List Addr} {H H' : Hp}
mutual
theorem RV.mono (e : Evo rho H rho' H') : ∀ {v : V} {d : D}, RV fa rho H v d → RV fa rho' H' v d
  | _, _, .non => .non
  | _, _, .bl b => .bl b
  | _, _, .int i => .int i
  | _, _, .str x => .str x
  | _, _, .ref h => .ref (e.at h)
  | _, _, .tup h n r => .tup (e.same _ _ h n) (e.out h n) (RVs.mono e r)
  | _, _, .lst h n r => .lst (e.same _ _ h n) (e.out h n) (RVs.mono e r)
  | _, _, .scr h n => .scr (e.same _ _ h n) (e.out h n)
  | _, _, .fn h => .fn h
theorem RVs.mono (e : Evo rho H rho' H') : ∀ {vs : List V} {ds : List D}, RVs fa rho H vs ds → RVs fa rho' H' vs ds
  | _, _, .nil => .nil
  | _, _, .cons a b => .cons (RV.mono e a) (RVs.mono e b)
end
theorem RVs.length : ∀ {vs : List V} {ds : List D}, RVs fa rho H vs ds → vs.length = ds.length
  | _, _, .nil => rfl
  | _, _, .cons _ b => congrArg Nat.succ (RVs.length b)
theorem RVs.at : ∀ {vs : List V} {ds : List D} {i : Nat} {d : D}, RVs fa rho H vs ds → ds[i]? = some d → ∃ v, vs[i]? = some v ∧ RV fa rho H v d
  | _, _, _, _, .nil, h => by simp at h
  | _, _, 0, _, .cons a _, h => by simp at h; subst h; exact ⟨_, rfl, a⟩
  | _, _, i + 1, _, .cons _ b, h => by
    obtain ⟨v, h1, h2⟩ := RVs.at (i := i) b (by simpa using h)
    exact ⟨v, by simpa using h1, h2⟩
theorem RVs.append : ∀ {vs us : List V} {ds es : List D}, RVs fa rho H vs ds → RVs fa rho H us es → RVs fa rho H (vs ++ us) (ds ++ es)
  | _, _, _, _, .nil, q => q
  | _, _, _, _, .cons a b, q => .cons a (RVs.append b q)
theorem RVs.take : ∀ {vs : List V} {ds : List D} (n : Nat), RVs fa rho H vs ds → RVs fa rho H (vs.take n) (ds.take n)
  | _, _, 0, _ => .nil
  | _, _, _ + 1, .nil => .nil
  | _, _, n + 1, .cons a b => .cons a (RVs.take n b)
theorem RVs.drop : ∀ {vs : List V} {ds : List D} (n : Nat), RVs fa rho H vs ds → RVs fa rho H (vs.drop n) (ds.drop n)
  | _, _, 0, r => r
  | _, _, _ + 1, .nil => .nil
  | _, _, n + 1, .cons _ b => RVs.drop n b
theorem RVs.set : ∀ {vs : List V} {ds : List D} {v : V} {d : D} (i : Nat), RVs fa rho H vs ds → RV fa rho H v d → RVs fa rho H (vs.set i v) (ds.set i d)
  | _, _, _, _, _, .nil, _ => .nil
  | _, _, _, _, 0, .cons _ b, q => .cons q b
  | _, _, _, _, i + 1, .cons a b, q => .cons a (RVs.set i b q)
theorem RVs.reverse : ∀ {vs : List V} {ds : List D}, RVs fa rho H vs ds → RVs fa rho H vs.reverse ds.reverse
  | _, _, .nil => .nil
  | _, _, .cons a b => by
    rw [List.reverse_cons, List.reverse_cons]
    exact (RVs.reverse b).append (.cons a .nil)
theorem RVs.ofInts : ∀ ns : List Int, RVs fa rho H (ns.map V.int) (ns.map D.int)
  | [] => .nil
  | n :: ns => .cons (.int n) (RVs.ofInts ns)
theorem RVs.rep {vs : List V} {ds : List D} (r : RVs fa rho H vs ds) : ∀ k : Nat, RVs fa rho H (List.replicate k vs).flatten (List.replicate k ds).flatten
  | 0 => .nil
  | k + 1 => by
    rw [List.replicate_succ, List.replicate_succ, List.flatten_cons, List.flatten_cons]
    exact r.append (RVs.rep r k)
theorem RVs.getI : ∀ {vs : List V} {ds : List D} {ns : List Int}, RVs fa rho H vs ds → getI ds = some ns → vs = ns.map V.int
  | _, _, _, .nil, h => by unfold Bw.getI at h; cases h; rfl
  | _, _, _, .cons a b, h => by
    cases a <;> first | (unfold Bw.getI at h; cases h; done) | skip
    unfold Bw.getI at h
    split at h
    · rename_i l e
      cases h
      rw [RVs.getI b e]; rfl
    · cases h
theorem RVs.getB : ∀ {vs : List V} {ds : List D} {ns : List Bool}, RVs fa rho H vs ds → getB ds = some ns → vs = ns.map V.bl
  | _, _, _, .nil, h => by unfold Bw.getB at h; cases h; rfl
  | _, _, _, .cons a b, h => by
    cases a <;> first | (unfold Bw.getB at h; cases h; done) | skip
    unfold Bw.getB at h
    split at h
    · rename_i l e
      cases h
      rw [RVs.getB b e]; rfl
    · cases h
/-! data, for == -/
mutual
theorem RV.dp : ∀ {v : V} {d : D} {p : PyData}, RV fa rho H v d → toP d = some p → Dp K H v p
  | _, _, _, .non, h => by cases h; exact .non
  | _, _, _, .bl b, h => by cases h; exact .bl b
  | _, _, _, .int b, h => by cases h; exact .int b
  | _, _, _, .str b, h => by cases h; exact .str b
  | _, _, _, .ref _, h => by cases h
  | _, _, _, .scr _ _, h => by cases h
  | _, _, _, .fn _, h => by cases h
  | _, _, _, .tup a n r, h => by
    unfold toP at h
    split at h
    · rename_i l e
      cases h
      exact .tup (SqT.of a) (RVs.dp r e)
    · cases h
  | _, _, _, .lst a n r, h => by
    unfold toP at h
    split at h
    · rename_i l e
      cases h
      exact .lst (SqL.of a) (RVs.dp r e)
    · cases h
theorem RVs.dp : ∀ {vs : List V} {ds : List D} {ps : List PyData}, RVs fa rho H vs ds → toPs ds = some ps → DpAll K H vs ps
  | _, _, _, .nil, h => by cases h; exact .nil
  | _, _, _, .cons a b, h => by
    unfold toPs at h
    split at h
    · rename_i y e
      split at h
      · rename_i l e2
        cases h
        exact .cons (RV.dp a e) (RVs.dp b e2)
      · cases h
    · cases h
end
end
/-- the store -/
structure StR (fa : Nat → Option Addr) (rho : List Addr) (H : Hp) (s : Sto) : Prop where
  len : rho.length = s.length
  nd : rho.Nodup
  at_ : ∀ (i : Nat) (a : Addr) (lk : Bool) (ds : List D), rho[i]? = some a → s[i]? = some (SO.lst lk ds) → ∃ xs, H a = some (.lst xs) ∧ RVs fa rho H xs ds ∧ cleans ds = true
structure EnR (fa : Nat → Option Addr) (rho : List Addr) (H : Hp) (e : En) (σ : L2.St) : Prop where
  len : σ.length = e.length
  at_ : ∀ (i : Nat) (d : D), e[i]? = some (some d) → ∃ x, σ[i]? = some (some x) ∧ RV fa rho H x d
section
variable {fa : Nat → Option Addr} {rho rho' : List Addr} {H H' : Hp} {s : Sto} {e : En} {σ : L2.St}
theorem EnR.mono (r : EnR fa rho H e σ) (v : Evo rho H rho' H') : EnR fa rho' H' e σ := ⟨r.len, fun i d h => let ⟨x, h1, h2⟩ := r.at_ i d h; ⟨x, h1, h2.mono v⟩⟩
theorem EnR.set (r : EnR fa rho H e σ) {v : V} {d : D} (i : Nat) (h : RV fa rho H v d) : EnR fa rho H (e.set i (some d)) (σ.set i (some v)) := by
  refine ⟨by rw [List.length_set, List.length_set]; exact r.len, fun j x hj => ?_⟩
  by_cases hij : i = j
  · subst hij
    by_cases hl : i < e.length
    · rw [List.getElem?_set_self hl] at hj
      cases hj
      exact ⟨v, List.getElem?_set_self (by rw [r.len]; exact hl), h⟩
    · rw [List.getElem?_eq_none (by rw [List.length_set]; omega)] at hj; cases hj
  · rw [List.getElem?_set_ne hij] at hj
    obtain ⟨y, h1, h2⟩ := r.at_ j x hj
    exact ⟨y, by rw [List.getElem?_set_ne hij]; exact h1, h2⟩
theorem EnR.wipe (r : EnR fa rho H e σ) : ∀ vs : List Nat, EnR fa rho H (wipeE e vs) (wipe σ vs)
  | [] => r
  | v :: vs => by
    have q := EnR.wipe r vs
    unfold wipeE L2.wipe
    refine ⟨by rw [List.length_set, List.length_set]; exact q.len, fun j x hj => ?_⟩
    by_cases hij : v = j
    · subst hij
      by_cases hl : v < (wipeE e vs).length
      · rw [List.getElem?_set_self hl] at hj; cases hj
      · rw [List.getElem?_eq_none (by rw [List.length_set]; omega)] at hj; cases hj
    · rw [List.getElem?_set_ne hij] at hj
      obtain ⟨y, h1, h2⟩ := q.at_ j x hj
      exact ⟨y, by rw [List.getElem?_set_ne hij]; exact h1, h2⟩
theorem StR.some (S : StR fa rho H s) {i : Nat} {a : Addr} {lk : Bool} {ds : List D} (h : rho[i]? = some a) (q : s[i]? = some (SO.lst lk ds)) : ∃ xs, H a = some (.lst xs) ∧ RVs fa rho H xs ds := let ⟨xs, a, b, _⟩ := S.at_ i a lk ds h q; ⟨xs, a, b⟩
/-- what a value's items are, where they stand -/
theorem items_at (S : StR fa rho H s) {K : PySem.W.Frag} {v : V} {d : D} {ds : List D} (r : RV fa rho H v d) (h : items s d = Option.some ds) : ∃ a xs, v = .ref a ∧ (SqL K H a xs ∨ SqT K H a xs) ∧ RVs fa rho H xs ds := by
  cases r <;> first | (simp [items] at h; done) | skip
  · rename_i i a hi
    simp only [items] at h
    split at h
    · rename_i lk xs e
      cases h
      obtain ⟨xs, h1, h2⟩ := S.some hi e
      exact ⟨a, xs, rfl, .inl (SqL.of h1), h2⟩
    · cases h
  · rename_i a xs es h1 n r
    simp only [items, Option.some.injEq] at h
    subst h
    exact ⟨a, xs, rfl, .inr (SqT.of h1), r⟩
  · rename_i a xs es h1 n r
    simp only [items, Option.some.injEq] at h
    subst h
    exact ⟨a, xs, rfl, .inl (SqL.of h1), r⟩
theorem StR.laid (S : StR fa rho H s) {p : Addr} {o : HO} (n : H p = none) : StR fa rho (upd H p o) s := by
  refine ⟨S.len, S.nd, fun i a lk ds h q => ?_⟩
  obtain ⟨xs, h1, h2, h3⟩ := S.at_ i a lk ds h q
  exact ⟨xs, by rw [upd_ne (ne_of_none h1 n)]; exact h1, h2.mono (Evo.laid n), h3⟩
theorem StR.out (S : StR fa rho H s) {p : Addr} (n : H p = none) : p ∉ rho := by
  intro z
  obtain ⟨i, hi, e⟩ := List.getElem_of_mem z
  have h1 : rho[i]? = Option.some p := by rw [List.getElem?_eq_getElem hi, e]
  have h2 : ∃ o, s[i]? = Option.some o := ⟨s[i]'(by rw [← S.len]; exact hi), List.getElem?_eq_getElem _⟩
  obtain ⟨⟨lk, ds⟩, h2⟩ := h2
  obtain ⟨xs, h3, _⟩ := S.some h1 h2
  rw [n] at h3; cases h3
theorem StR.grown (S : StR fa rho H s) {p : Addr} {xs : List V} {ds : List D} {lk : Bool} (n : H p = none) (r : RVs fa rho H xs ds) (c : cleans ds = true) : StR fa (rho ++ [p]) (upd H p (.lst xs)) (s ++ [SO.lst lk ds]) := by
  have np := S.out n
  have E : Evo rho H (rho ++ [p]) (upd H p (.lst xs)) := Evo.grown n
  refine ⟨by simp [S.len], ?_, fun i a lk' es h q => ?_⟩
  · rw [List.nodup_append]
    refine ⟨S.nd, by simp, fun a ha b hb => ?_⟩
    rw [List.mem_singleton.mp hb]
    rintro rfl
    exact np ha
  · by_cases hi : i < s.length
    · rw [List.getElem?_append_left (by rw [S.len]; exact hi)] at h
      rw [List.getElem?_append_left hi] at q
      obtain ⟨ys, h1, h2, h3⟩ := S.at_ i a lk' es h q
      exact ⟨ys, by rw [upd_ne (ne_of_none h1 n)]; exact h1, h2.mono E, h3⟩
    · rw [List.getElem?_append_right (by omega)] at q
      rw [List.getElem?_append_right (by rw [S.len]; omega), S.len] at h
      have h0 : i - s.length = 0 := by
        cases z : i - s.length with
        | zero => rfl
        | succ k => rw [z] at q; simp at q
      rw [h0] at h q
      simp at h q
      obtain ⟨rfl, rfl⟩ := q
      subst h
      exact ⟨xs, upd_same, r.mono E, c⟩
theorem StR.wrote (S : StR fa rho H s) {i : Nat} {p : Addr} {xs : List V} {ds es : List D} {lk lk' : Bool} (hi : rho[i]? = Option.some p) (q : s[i]? = Option.some (SO.lst lk es)) (r : RVs fa rho H xs ds) (c : cleans ds = true) :
    StR fa rho (upd H p (.lst xs)) (s.set i (SO.lst lk' ds)) ∧ Evo rho H rho (upd H p (.lst xs)) := by
  obtain ⟨ys, h1, h2⟩ := S.some hi q
  have E : Evo rho H rho (upd H p (.lst xs)) := Evo.wrote (List.mem_of_getElem? hi) h1
  refine ⟨⟨by rw [List.length_set]; exact S.len, S.nd, fun j a lk2 fs h z => ?_⟩, E⟩
  by_cases hj : i = j
  · subst hj
    rw [List.getElem?_set_self (List.getElem?_eq_some_iff.mp q).1] at z
    cases z
    rw [hi] at h; cases h
    exact ⟨xs, upd_same, r.mono E, c⟩
  · rw [List.getElem?_set_ne hj] at z
    obtain ⟨zs, g1, g2, g3⟩ := S.at_ j a lk2 fs h z
    have ne : a ≠ p := by
      rintro rfl
      obtain ⟨l1, e1⟩ := List.getElem?_eq_some_iff.mp hi
      obtain ⟨l2, e2⟩ := List.getElem?_eq_some_iff.mp h
      exact hj ((List.getElem_inj S.nd).mp (e1.trans e2.symm))
    exact ⟨zs, by rw [upd_ne ne]; exact g1, g2.mono E, g3⟩
/-- a list is locked, unlocked -/
theorem StR.lock (S : StR fa rho H s) {i : Nat} {ds : List D} {lk lk' : Bool} (q : s[i]? = Option.some (SO.lst lk ds)) : StR fa rho H (s.set i (SO.lst lk' ds)) := by
  refine ⟨by rw [List.length_set]; exact S.len, S.nd, fun j a lk2 fs h z => ?_⟩
  by_cases hj : i = j
  · subst hj
    rw [List.getElem?_set_self (List.getElem?_eq_some_iff.mp q).1] at z
    cases z
    exact S.at_ i a lk ds h q
  · rw [List.getElem?_set_ne hj] at z
    exact S.at_ j a lk2 fs h z
end
end Bw

set_option Elab.async false
set_option linter.all false
set_option maxRecDepth 100000
set_option maxHeartbeats 4000000
/-! Bw: from the text's trees to the small language -/
namespace Bw
open PySem L2
structure Cfg where
  fns : List Str
  blt : List Str
  con : List Str
  inS : List (Nat × Nat)
  exc : List Str
  /-- calls by keywords: the def, how many stand ahead, the keywords, the parameters' order -/
  kwp : List (Nat × Nat × List Str × List Nat)
  /-- own errors below ValueError, below LookupError -/
  exb : List Str
  exl : List Str
def kwNames : List Keyword → Option (List Str)
  | [] => some []
  | ⟨some x, e, _⟩ :: r => (match kwNames r with
    | some l => some (x :: l)
    | none => none)
  | ⟨none, _, _⟩ :: _ => none
def ixFrom : List Str → Str → Nat → Option Nat
  | [], _, _ => none
  | y :: ys, x, i => if x = y then some i else ixFrom ys x (i + 1)
theorem ixFrom_ok : ∀ {l : List Str} {x : Str} {i j : Nat}, ixFrom l x i = some j → i ≤ j ∧ l[j - i]? = some x
  | [], _, _, _, h => by cases h
  | y :: ys, x, i, j, h => by
    unfold ixFrom at h
    split at h
    · rename_i e
      cases h
      exact ⟨Nat.le_refl _, by simp [e]⟩
    · obtain ⟨h1, h2⟩ := ixFrom_ok h
      refine ⟨by omega, ?_⟩
      have e : j - i = (j - (i + 1)) + 1 := by omega
      rw [e]
      simpa using h2
def ixOf (l : List Str) (x : Str) : Option Nat := ixFrom l x 0
theorem ixOf_ok {l : List Str} {x : Str} {j : Nat} (h : ixOf l x = some j) : l[j]? = some x := by
  have := (ixFrom_ok h).2
  simpa using this
def okN (x : Str) : Bool := !(x == ("__debug__" : Str)) && !(x == ("__classdict__" : Str)) && !(x == ("__name__" : Str))
/-- names of the module math -/
def mathN (x : Str) : Option String := if x = "gcd" then some "math.gcd" else if x = "lcm" then some "math.lcm" else if x = "comb" then some "math.comb" else none
def biOf (x : Str) (m : Bool) : Option Bi :=
  if x = "len" then some .len else if x = "int" then some .int else if x = "abs" then some .abs else if x = "tuple" then some .tuple
  else if x = "list" then some (if m then .listR else .list) else if x = "sum" then some .sum else if x = "all" then some .all else if x = "any" then some .any
  else if x = "max" then some .max else if x = "min" then some .min else if x = "gcd" then some .gcd else if x = "lcm" then some .lcm else if x = "comb" then some .comb else if x = "sorted" then some .sorted else none
def tyOf (x : Str) : Option Ty :=
  if x = "int" then some .int else if x = "bool" then some .bool else if x = "str" then some .str else if x = "list" then some .list else if x = "tuple" then some .tuple else none
def bopOf : Operator → Option Bop
  | .Add => some .add
  | .Sub => some .sub
  | .Mult => some .mul
  | .FloorDiv => some .fdiv
  | .Mod => some .mod
  | .Pow => some .pow
  | _ => none
def augOf : Operator → Option Bop
  | .Add => some .add
  | .Sub => some .sub
  | _ => none
def copOf : CmpOp → Option Cop
  | .Eq => some .eq
  | .NotEq => some .ne
  | .Lt => some .lt
  | .LtE => some .le
  | .Gt => some .gt
  | .GtE => some .ge
  | .Is => some .isn
  | .IsNot => some .notn
  | .In => some .mem
  | .NotIn => some .nmem
/-- no starred item, no set display: what stands where an argument may -/
def plainE : Expr → Bool
  | .Starred .. => false
  | .Set .. => false
  | _ => true
def isRg : Expr → Bool
  | .Call (.Name x _) _ [] _ => decide (x = "range")
  | _ => false
def isSC : Expr → Bool
  | .SetComp .. => true
  | _ => false
def isSet : Expr → Bool
  | .Call (.Name x _) _ [] _ => decide (x = "set")
  | _ => false
def tyL (g : Cfg) (sc : Scope) : List Expr → Option (List Ty)
  | [] => some []
  | .Name x _ :: es => if sc.names.lookup x = some .globalImplicit ∧ x ∈ g.blt then (match tyOf x, tyL g sc es with
    | some t, some ts => some (t :: ts)
    | _, _ => none) else none
  | _ => none
def ownOf (N : List Str) : List (Str × NameKind) → Option (List (Str × Nat))
  | [] => some []
  | (x, k) :: r => if k = .local ∨ k = .cell then (match ixOf N x, ownOf N r with
    | some i, some l => some ((x, i) :: l)
    | none, some l => some l
    | _, none => none) else ownOf N r
def optC (o : Option C) : Option (Option C) := o.map some
section
variable (g : Cfg) (N : List Str)
/-- the slots of a target -/
def tsl : Nat → T → List Nat
  | _, .nm i => [i]
  | m + 1, .tup ts => ts.flatMap (tsl m)
  | _, _ => []
/-- a target of a comprehension's block: own names alone -/
def cT : Nat → Scope → List Nat → Expr → T
  | 0, _, _, _ => .bad
  | m + 1, sc, own, e => match e with
    | .Name x _ => (match ixOf N x with
      | some i => if i ∈ own ∧ (sc.names.lookup x = some .local ∨ sc.names.lookup x = some .cell) then .nm i else .bad
      | none => .bad)
    | .Tuple es _ _ => if es.all plainE then .tup (es.map (cT m sc own)) else .bad
    | _ => .bad
/-- the slots of an inner target -/
def vs1Of (m : Nat) (sc : Scope) (own : List Nat) (tg : Expr) : List Nat := (tsl 5 (cT N m sc own tg)).filter fun i => decide (i ∈ own)
mutual
def cE : Nat → Scope → Expr → C
  | 0, _, _ => .bad
  | m + 1, sc, e => match e with
    | .Constant .none _ _ => .cst .non
    | .Constant (.bool b) _ _ => .cst (.bl b)
    | .Constant (.int i) _ _ => .cst (.int i)
    | .Constant (.str x) _ _ => .cst (.str x)
    | .Name x _ => if okN x then (match sc.names.lookup x with
      | some .local => (match ixOf N x with
        | some i => .var i
        | none => .bad)
      | some .cell => (match ixOf N x with
        | some i => .var i
        | none => .bad)
      | some .free => (match ixOf N x with
        | some i => .var i
        | none => .bad)
      | some .globalImplicit => if x ∈ g.con then .glb x else (match ixOf g.fns x with
        | some k => .cst (.fn k)
        | none => .bad)
      | _ => .bad) else .bad
    | .BinOp a op b p => if op = .Add ∧ (p.line, p.col) ∈ g.inS then .bin .addL (cE m sc a) (cE m sc b) else (match bopOf op with
      | some o => .bin o (cE m sc a) (cE m sc b)
      | none => .bad)
    | .UnaryOp .USub a _ => .neg (cE m sc a)
    | .UnaryOp .Not a _ => .not (cE m sc a)
    | .BoolOp .And es _ => .and (es.map (cE m sc))
    | .BoolOp .Or es _ => .or (es.map (cE m sc))
    | .IfExp t a b _ => .ife (cE m sc t) (cE m sc a) (cE m sc b)
    | .Compare a [op] [b] _ => (match copOf op with
      | some o => if plainE b then .cmp o (cE m sc a) (cE m sc b) else .bad
      | none => .bad)
    | .Compare a [op, op'] [b, c] _ => (match copOf op, copOf op' with
      | some o, some o' => if plainE b && plainE c then .chain o o' (cE m sc a) (cE m sc b) (cE m sc c) else .bad
      | _, _ => .bad)
    | .Tuple es _ _ => if es.all plainE then .tup (es.map (cE m sc)) else .bad
    | .List es p => if es.all plainE then .lst (decide ((p.line, p.col) ∈ g.inS)) (es.map (cE m sc)) else .bad
    | .Subscript a (.Slice lo hi none _) _ => (match (match lo with
        | none => none
        | some l => some (cE m sc l)), (match hi with
        | none => none
        | some l => some (cE m sc l)) with
      | l, h => .sl (cE m sc a) l h)
    | .Subscript a (.Slice none none (some (.UnaryOp .USub (.Constant (.int 1) _ _) _)) _) _ => .rvs (cE m sc a)
    | .Subscript a i _ => .ix (cE m sc a) (cE m sc i)
    | .ListComp elt [⟨tg, iter, [], 0⟩] scope p => (match ownOf N scope.names with
      | some own => if blkC N sc scope own && plainE iter then .comp (decide ((p.line, p.col) ∈ g.inS)) (cE m (relS scope sc) elt) (own.map (·.2)) (cT N m (relS scope sc) (own.map (·.2)) tg) (cI m sc iter tg) none else .bad
      | none => .bad)
    | .ListComp elt [⟨tg, iter, [i], 0⟩] scope p => (match ownOf N scope.names with
      | some own => if blkC N sc scope own && plainE iter then .comp (decide ((p.line, p.col) ∈ g.inS)) (cE m (relS scope sc) elt) (own.map (·.2)) (cT N m (relS scope sc) (own.map (·.2)) tg) (cI m sc iter tg) (some (cE m (relS scope sc) i)) else .bad
      | none => .bad)
    | .ListComp elt [⟨tg, iter, [], 0⟩, ⟨tg1, iter1, [], 0⟩] scope p => (match ownOf N scope.names with
      | some own => if blkC N sc scope own && plainE iter && plainE iter1 then .comp2 (decide ((p.line, p.col) ∈ g.inS)) (cE m (relS scope sc) elt) (own.map (·.2)) (cT N m (relS scope sc) (own.map (·.2)) tg) (cI m sc iter tg) (vs1Of N m (relS scope sc) (own.map (·.2)) tg1) (cT N m (relS scope sc) (vs1Of N m (relS scope sc) (own.map (·.2)) tg1) tg1) (cI m (relS scope sc) iter1 tg1) else .bad
      | none => .bad)
    | .Call (.Name x xp) (e :: es) [] p => if okN x && (plainE e && es.all plainE) && decide (sc.names.lookup x = some .globalImplicit) then
        (match ixOf g.fns x with
        | some k => .call k (cE m sc e :: es.map (cE m sc))
        | none => if x ∈ g.blt then (if x = "isinstance" then (match es with
            | [.Name y _] => (match tyL g sc [.Name y p] with
              | some ts => .isi (cE m sc e) ts
              | none => .bad)
            | [.Tuple ts _ _] => (match tyL g sc ts with
              | some ts => if ts.length ≤ lim then .isi (cE m sc e) ts else .bad
              | none => .bad)
            | _ => .bad) else if x = "sorted" ∧ isSC e = true then (match e, es with
            | .SetComp elt [⟨tg, iter, [], 0⟩] scope _, [] => (match ownOf N scope.names with
              | some own => if blkC N sc scope own && plainE iter then .sset (cE m (relS scope sc) elt) (own.map (·.2)) (cT N m (relS scope sc) (own.map (·.2)) tg) (cI m sc iter tg) else .bad
              | none => .bad)
            | _, _ => .bad) else if (x = "sorted" ∨ x = "len") ∧ isSet e = true then (match e, es with
            | .Call (.Name y _) [a] [] _, [] => if y = "set" ∧ sc.names.lookup y = some .globalImplicit ∧ y ∈ g.blt ∧ plainE a = true then (if x = "sorted" then .sset1 (cE m sc a) else .lset (cE m sc a)) else .bad
            | _, _ => .bad) else if (x = "list" ∨ x = "tuple") ∧ isRg e = true then (match e, es with
            | .Call (.Name y _) (a :: as) [] _, [] => if y = "range" ∧ sc.names.lookup y = some .globalImplicit ∧ y ∈ g.blt ∧ plainE a = true ∧ as.all plainE = true then .rng (decide (x = "tuple")) (decide ((p.line, p.col) ∈ g.inS)) (cE m sc a :: as.map (cE m sc)) else .bad
            | _, _ => .bad) else (match biOf x (decide ((p.line, p.col) ∈ g.inS)) with
            | some f => .bi f (cE m sc e :: es.map (cE m sc))
            | none => .bad)) else .bad) else if (plainE e && es.all plainE) && decide (sc.names.lookup x ≠ some .globalImplicit) then .callX (cE m sc (.Name x xp)) ((e :: es).map (cE m sc)) else .bad
    | .Call (.Name x _) [] [] _ => if okN x && decide (sc.names.lookup x = some .globalImplicit) then
        (match ixOf g.fns x with
        | some k => .call k []
        | none => .bad) else .bad
    | .Call (.Name x _) es (kw :: kws) _ => if okN x && es.all plainE && decide (sc.names.lookup x = some .globalImplicit) then
        (match ixOf g.fns x, kwNames (kw :: kws) with
        | some k, some ks => (match g.kwp.find? (fun q => decide (q.1 = k ∧ q.2.1 = es.length ∧ q.2.2.1 = ks)) with
          | some q => .callK k q.2.2.2 (es.map (cE m sc) ++ (kw :: kws).map (fun w => cE m sc w.value))
          | none => .bad)
        | none, some ks => if x = "min" ∧ x ∈ g.blt ∧ ks = [("default" : Str)] then (match es, kws with
          | [e], [] => .mind (cE m sc e) (cE m sc kw.value)
          | _, _ => .bad) else .bad
        | _, _ => .bad) else .bad
    | .Call (.Attribute (.Name x xp) nm ap) [e] [] cp => if plainE e && decide (ap.endLine = cp.line) && decide (nm = "index") then .meth .index (cE m sc (.Name x xp)) (cE m sc e) else .bad
    | .Call (.Subscript a i sp) es [] _ => if es.all plainE then .callX (cE m sc (.Subscript a i sp)) (es.map (cE m sc)) else .bad
    | _ => .bad
/-- what is gone over; tg: the target (a pair for zip and enumerate) -/
def cI : Nat → Scope → Expr → Expr → It
  | 0, _, _, _ => .bad
  | m + 1, sc, e, tg => match e with
    | .Call (.Name x p) [a] [] q => if sc.names.lookup x = some .globalImplicit ∧ x ∈ g.blt ∧ plainE a = true ∧ ixOf g.fns x = none then
        (if x = "range" then .rg1 (cE m sc a) else if x = "reversed" then .rev (cE m sc a) else if x = "enumerate" then (match tg with
          | .Tuple .. => .enu (cE m sc a)
          | _ => .bad) else .sq (cE m sc (.Call (.Name x p) [a] [] q))) else .sq (cE m sc (.Call (.Name x p) [a] [] q))
    | .Call (.Name x p) [a, b] [] q => if sc.names.lookup x = some .globalImplicit ∧ x ∈ g.blt ∧ plainE a = true ∧ plainE b = true ∧ ixOf g.fns x = none then
        (if x = "range" then .rg2 (cE m sc a) (cE m sc b) else if x = "zip" then (match tg with
          | .Tuple .. => .zip (cE m sc a) (cE m sc b)
          | _ => .bad) else if x = "enumerate" then (match tg with
          | .Tuple .. => .enu2 (cE m sc a) (cE m sc b)
          | _ => .bad) else .sq (cE m sc (.Call (.Name x p) [a, b] [] q))) else .sq (cE m sc (.Call (.Name x p) [a, b] [] q))
    | e => .sq (cE m sc e)
end
end
/-! ### statements -/
/-- what two or three names at once are stored by: none: not known -/
def sw (sc : Scope) (ts vs : List Expr) : Option (Option (List Str)) :=
  if !(ts.length == 2 || ts.length == 3) || vs.length != ts.length then some none
  else if vs.any (fun | .Starred .. => true | _ => false) then some none
  else
    let line := (ts.head?.map (·.pos.line)).getD 0
    let names := ts.filterMap fun
      | .Name id pos => if sc.names.lookup id == some .local && pos.line == line then some id else none
      | _ => none
    if names.length != ts.length || names.eraseDups.length != names.length then some none
    else if vs.all (foldedForSure 8) then some none
    else if vs.all (constantsAlone 8) then none
    else some (some names)
def isComp : Expr → Bool
  | .ListComp .. => true
  | .SetComp .. => true
  | .DictComp .. => true
  | _ => false
def isSl : Expr → Bool
  | .Slice .. => true
  | _ => false
section
variable (g : Cfg) (N : List Str) (sc : Scope)
def cTS : Nat → Expr → T
  | 0, _ => .bad
  | m + 1, e => match e with
    | .Name x _ => (match ixOf N x with
      | some i => if sc.names.lookup x = some .local ∨ sc.names.lookup x = some .cell then .nm i else .bad
      | none => .bad)
    | .Tuple es _ _ => if es.all plainE then .tup (es.map (cTS m)) else .bad
    | .Subscript a i _ => if isSl i then .bad else .sub (cE g N m sc a) (cE g N m sc i)
    | _ => .bad
/-- a list made on one line and stored to a local name -/
def swC (x : Str) (xp : Pos) : Expr → Bool
  | .ListComp _ _ scope p => decide (sc.names.lookup x = some .local) && decide (xp.line = p.line) && !(scope.names.any fun (n, k) => n == x && (k == .local || k == .cell))
  | _ => false
/-- what a handler's suite makes: a text, the error's attribute, isinstance of the error; x is the error's class, y its name -/
def cHV (x y : Str) : Expr → Option (Option D)
  | .Constant (.str z) _ _ => some (some (.str z))
  | .Call (.Name f _) [.Name y' _, .Name t _] [] _ =>
      if f = "isinstance" ∧ sc.names.lookup f = some .globalImplicit ∧ f ∈ g.blt ∧ sc.names.lookup t = some .globalImplicit ∧ t ∈ g.blt ∧ y' = y
      then (if t = "ValueError" then some (some (.bl (decide (x ∈ g.exb)))) else if t = "LookupError" then some (some (.bl (decide (x ∈ g.exl)))) else none) else none
  | _ => none
def cHVs (x y : Str) : List Expr → Option (List (Option D))
  | [] => some []
  | e :: es => match cHV g sc x y e, cHVs x y es with
    | some a, some l => some (a :: l)
    | _, _ => none
def cHE (x y : Str) : Expr → Option HE
  | .List es _ => (match cHVs g sc x y es with
    | some l => if l.length ≤ 8 then some (.lst l) else none
    | none => none)
  | e => (match cHV g sc x y e with
    | some a => some (.one a)
    | none => none)
/-- except x as y: return e, or z = e -/
def cH : ExceptHandler → Option (Str × Nat × Option Nat × HE)
  | .ExceptHandler (some (.Name x _)) (some y) [.Return (some e) _] _ =>
      if x ∈ g.exc ∧ okN x = true ∧ sc.names.lookup x = some .globalImplicit ∧ okN y = true ∧ sc.names.lookup y = some .local
      then (match ixOf N y, cHE g sc x y e with
        | some i, some h => some (x, i, none, h)
        | _, _ => none) else none
  | .ExceptHandler (some (.Name x _)) (some y) [.Assign [.Name z _] e _] _ =>
      if x ∈ g.exc ∧ okN x = true ∧ sc.names.lookup x = some .globalImplicit ∧ okN y = true ∧ sc.names.lookup y = some .local ∧ (sc.names.lookup z = some .local ∨ sc.names.lookup z = some .cell) ∧ isComp e = false
      then (match ixOf N y, ixOf N z, cHE g sc x y e with
        | some i, some j, some h => some (x, i, some j, h)
        | _, _, _ => none) else none
  | _ => none
def cHs : List ExceptHandler → Option (List (Str × Nat × Option Nat × HE))
  | [] => some []
  | h :: hs => match cH g N sc h, cHs hs with
    | some a, some l => some (a :: l)
    | _, _ => none
def cS : Nat → Stmt → S
  | 0, _ => .bad
  | m + 1, st => match st with
    | .Expr (.Call (.Attribute (.Name x xp) at_ ap) [e] [] cp) _ => if plainE e && decide (ap.endLine = cp.line) && decide (at_ = "append") then .app (cE g N m sc (.Name x xp)) (cE g N m sc e) else .bad
    | .Expr e _ => if isComp e then .bad else .ex (cE g N m sc e)
    | .AugAssign (.Name x _) op e _ => (match ixOf N x, augOf op with
      | some i, some o => if sc.names.lookup x = some .local ∨ sc.names.lookup x = some .cell then .aug i o (cE g N m sc e) else .bad
      | _, _ => .bad)
    | .Assign [.Name x xp] e _ => if isComp e && decide (sc.names.lookup x = some .local) then (match e with
        | .ListComp elt [⟨tg, iter, [], 0⟩] scope p => (match ixOf N x with
          | some k => if swC sc x xp (.ListComp elt [⟨tg, iter, [], 0⟩] scope p) then .set (.nm k) (cE g N m sc (.ListComp elt [⟨tg, iter, [], 0⟩] scope p)) else .bad
          | none => .bad)
        | .ListComp elt [⟨tg, iter, [i], 0⟩] scope p => (match ixOf N x with
          | some k => if swC sc x xp (.ListComp elt [⟨tg, iter, [i], 0⟩] scope p) then .set (.nm k) (cE g N m sc (.ListComp elt [⟨tg, iter, [i], 0⟩] scope p)) else .bad
          | none => .bad)
        | .ListComp elt [⟨tg, iter, [], 0⟩, ⟨tg1, iter1, [], 0⟩] scope p => (match ixOf N x with
          | some k => if swC sc x xp (.ListComp elt [⟨tg, iter, [], 0⟩, ⟨tg1, iter1, [], 0⟩] scope p) then .set (.nm k) (cE g N m sc (.ListComp elt [⟨tg, iter, [], 0⟩, ⟨tg1, iter1, [], 0⟩] scope p)) else .bad
          | none => .bad)
        | _ => .bad) else .set (cTS g N sc 1 (.Name x xp)) (cE g N m sc e)
    | .Assign [.Tuple ts k tp] (.Tuple vs k2 p2) _ => (match sw sc ts vs with
      | some none => .set (cTS g N sc m (.Tuple ts k tp)) (cE g N m sc (.Tuple vs k2 p2))
      | some (some names) => (match ts, vs with
        | [.Name x xp, .Name y yp], [a, b] => (match ixOf N x, ixOf N y with
          | some i, some j => if names = [x, y] ∧ plainE a = true ∧ plainE b = true ∧ sc.names.lookup x = some .local ∧ sc.names.lookup y = some .local ∧ x ≠ y then .set (.tup [.nm i, .nm j]) (cE g N m sc (.Tuple [a, b] k2 p2)) else .bad
          | _, _ => .bad)
        | [.Name x xp, .Name y yp, .Name z zp], [a, b, d] => (match ixOf N x, ixOf N y, ixOf N z with
          | some i, some j, some l => if names = [x, y, z] ∧ plainE a = true ∧ plainE b = true ∧ plainE d = true ∧ sc.names.lookup x = some .local ∧ sc.names.lookup y = some .local ∧ sc.names.lookup z = some .local ∧ x ≠ y ∧ x ≠ z ∧ y ≠ z then .set (.tup [.nm i, .nm j, .nm l]) (cE g N m sc (.Tuple [a, b, d] k2 p2)) else .bad
          | _, _, _ => .bad)
        | _, _ => .bad)
      | none => .bad)
    | .Assign [.Tuple ts k tp] e _ => .set (cTS g N sc m (.Tuple ts k tp)) (cE g N m sc e)
    | .Assign [.Subscript a i sp] e _ => .set (cTS g N sc m (.Subscript a i sp)) (cE g N m sc e)
    | .If t a b _ => .ife (cE g N m sc t) (a.map (cS m)) (b.map (cS m))
    | .While t b [] _ => .whl (cE g N m sc t) (b.map (cS m))
    | .For tg it b [] _ => if plainE it then .for_ (cTS g N sc m tg) (cI g N m sc it tg) (b.map (cS m)) else .bad
    | .Return (some e) _ => .ret (cE g N m sc e)
    | .Raise (some (.Call (.Name x _) [] [] _)) none _ => if x ∈ g.exc ∧ okN x = true ∧ sc.names.lookup x = some .globalImplicit then .rais x else .bad
    | .Try body (h :: hs) [] [] _ => (match cHs g N sc (h :: hs) with
      | some cs => .tryR (body.map (cS m)) cs g.exc
      | none => .bad)
    | .Pass _ => .pass
    | .Break _ => .brk
    | .Continue _ => .cnt
    | _ => .bad
/-- z = {}; while a not in z: z[a] = True; a = e; return tuple(list(z)) -/
def orbC : List Stmt → Option (Nat × Nat × C)
  | [.Assign [.Name z1 _] (.Dict [] [] _) _, .While (.Compare (.Name a1 _) [.NotIn] [.Name z2 _] _) [.Assign [.Subscript (.Name z3 _) (.Name a2 _) _] (.Constant (.bool true) _ _) _, .Assign [.Name a3 _] e _] [] _, .Return (some (.Call (.Name t _) [.Call (.Name l _) [.Name z4 _] [] _] [] _)) _] =>
      if z2 = z1 ∧ z3 = z1 ∧ z4 = z1 ∧ a2 = a1 ∧ a3 = a1 ∧ okN z1 = true ∧ okN a1 = true ∧ sc.names.lookup z1 = some .local ∧ sc.names.lookup a1 = some .local ∧ isComp e = false then
        (if t = "tuple" ∧ l = "list" ∧ sc.names.lookup t = some .globalImplicit ∧ sc.names.lookup l = some .globalImplicit ∧ t ∈ g.blt ∧ l ∈ g.blt then
          (match ixOf N z1, ixOf N a1 with
          | some i, some k => some (i, k, cE g N 59 sc e)
          | _, _ => none) else none) else none
  | _ => none
/-- a function's statements -/
def cB : List Stmt → List S
  | [] => []
  | st :: r => match orbC g N sc (st :: r) with
    | some (i, k, c) => [.orb i k c]
    | none => cS g N sc 60 st :: cB r
end
end Bw

set_option Elab.async false
set_option linter.all false
set_option maxRecDepth 100000
set_option maxHeartbeats 4000000
/-! Bw: what the machine does is what the small language says: expressions -/
namespace Bw
open PySem PySem.Spec PyProof.Rows L2
/-- what is fixed through a law: where the defs stand, the classes of errors, the module's constants -/
structure Gd where
  fa : Nat → Option Addr
  cl : Str → Option Value
  gl : Str → Option D
  P : List F
section
variable (g : Gd)
/-- what is wanted behind -/
def Po {α β : Type} (W : Value → Option Addr → Hp → Prop) (rho : List Addr) (H : Hp) (Rl : List Addr → Hp → β → α → Prop) (r : R α) (Q : β → Hp → Prop) : Prop := match r with
  | .ok v s => ∀ rho' H' x, Evo rho H rho' H' → StR g.fa rho' H' s → Rl rho' H' x v → Q x H'
  | .exc k s => ∃ c, g.cl k = some c ∧ ∀ rho' H', Evo rho H rho' H' → StR g.fa rho' H' s → W c none H'
  | .fail => False
/-- a def's promise -/
def spI (cf : CF) (k n : Nat) : Sp := fun vs H Q E => vs.length = n ∧ ∃ rho ds s, StR g.fa rho H s ∧ RVs g.fa rho H vs ds ∧ Po g E rho H (RV g.fa) (cf k ds s) Q
variable (c : Cfg) (N : List Str)
/-- what a call by keywords hands on -/
def gK {α : Type} (q : Nat × Nat × List Str × List Nat) (us ws : List α) : List α := if us.length = q.2.1 ∧ ws.length = q.2.2.1.length then (pick q.2.2.2 (us ++ ws)).getD [] else []
structure Fit (cf : CF) (j : Nat) (X : Cx) (sc : Scope) (W : WX) : Prop where
  hN : X.N = N
  nd : N.Nodup
  sc : X.env.scope = sc
  calm : X.calm = true
  tk : Takes X W
  room : Room j X.A
  j0 : 1 ≤ j
  own : PassesOwn (model X.prog X.w) X.A X.env X.xe
  fns : c.fns = g.P.map F.name
  len : ∀ k f ds s, g.P[k]? = some f → cf k ds s ≠ .fail → ds.length = f.ps.length
  calls : ∀ k f, g.P[k]? = some f → ∃ a fd, g.fa k = some a ∧ X.mg f.name = some (.ref a) ∧ PySem.W.keepIn X.K (.ref a) = true ∧ Binds X.K fd f.ps [] ∧ FnOk X.prog X.w X.K X.mg X.base (L2.CX X.prog X.w) j a fd f.ps (spI g cf k f.ps.length) ∧ (∀ q ∈ c.kwp, q.1 = k → f.ps ≠ [] ∧ KBinds X.K fd f.ps q.2.2.1 (gK q) (gK q))
  fnP : ∀ k a, g.fa k = some a → ∃ f, g.P[k]? = some f
  blt : ∀ x ∈ c.blt, X.mg x = (mathN x).map Value.builtin
  con : ∀ x ∈ c.con, ∀ v, g.gl x = some v → ∃ u z, X.mg x = some u ∧ RelV z u ∧ ∀ rho H, RV g.fa rho H z v
end
section
variable {g : Gd} {c : Cfg} {N : List Str} {cf : CF} {j : Nat} {X : Cx} {sc : Scope} {W : WX} {rho rho' : List Addr} {H H' : Hp} {σ : L2.St} {α β γ δ : Type} {Wv : Value → Option Addr → Hp → Prop}
theorem Po.base {Rl : List Addr → Hp → β → α → Prop} {r : R α} {Q : β → Hp → Prop} (h : Po g Wv rho H Rl r Q) (e : Evo rho H rho' H') : Po g Wv rho' H' Rl r Q := by
  cases r with
  | ok v s => exact fun r2 H2 x e2 => h r2 H2 x (e.trans e2)
  | exc k s => obtain ⟨c, h1, h2⟩ := h; exact ⟨c, h1, fun r2 H2 e2 => h2 r2 H2 (e.trans e2)⟩
  | fail => exact h
theorem Po.bind {Rl : List Addr → Hp → β → α → Prop} {Rm : List Addr → Hp → δ → γ → Prop} {r : R α} {f : α → Sto → R γ} {Q : δ → Hp → Prop} {Q' : β → Hp → Prop} (h : Po g Wv rho H Rm (r.bind f) Q)
    (k : ∀ v s1 r1 H1 x, r = .ok v s1 → Evo rho H r1 H1 → StR g.fa r1 H1 s1 → Rl r1 H1 x v → Po g Wv r1 H1 Rm (f v s1) Q → Q' x H1) : Po g Wv rho H Rl r Q' := by
  cases r with
  | ok v s => exact fun r1 H1 x e S R => k v s r1 H1 x rfl e S R (Po.base h e)
  | exc k s => exact h
  | fail => exact h
theorem Po.imp {Rl : List Addr → Hp → β → α → Prop} {r : R α} {Q Q' : β → Hp → Prop} (h : Po g Wv rho H Rl r Q) (k : ∀ x H1, Q x H1 → Q' x H1) : Po g Wv rho H Rl r Q' := by
  cases r with
  | ok v s => exact fun r1 H1 x e S R => k _ _ (h r1 H1 x e S R)
  | exc k s => exact h
  | fail => exact h
/-- a statement's -/
def tE (g : Gd) (W : WX) (ev : C → En → Sto → R D) (cc : C) : TE := fun σ H Q => ∃ rho e s, EnR g.fa rho H e σ ∧ StR g.fa rho H s ∧ Po g (fun c d H => W c d σ H) rho H (RV g.fa) (ev cc e s) Q
def tT (g : Gd) (W : WX) (ev : C → En → Sto → R D) (cc : C) : TT := fun σ H Q => ∃ rho e s, EnR g.fa rho H e σ ∧ StR g.fa rho H s ∧ Po g (fun c d H => W c d σ H) rho H (fun _ _ (x v : Bool) => x = v) (evT ev cc e s) Q
def tA (g : Gd) (W : WX) (ev : C → En → Sto → R D) (cs : List C) : TA := fun σ H Q => ∃ rho e s, EnR g.fa rho H e σ ∧ StR g.fa rho H s ∧ Po g (fun c d H => W c d σ H) rho H (RVs g.fa) (evs ev cs e s) Q
theorem PE.imp {e : Expr} {t t' : TE} (h : PE X e t) (k : ∀ σ H Q, t' σ H Q → t σ H Q) : PE X e t' := ⟨fun pins s σ H Q I q => h.run pins s σ H Q I (k σ H Q q)⟩
theorem PT.imp {e : Expr} {t t' : TT} (h : PT X e t) (k : ∀ σ H Q, t' σ H Q → t σ H Q) : PT X e t' := ⟨fun pins s σ H Q I q => h.run pins s σ H Q I (k σ H Q q)⟩
theorem PA.imp {e : List Expr} {t t' : TA} (h : PA X e t) (k : ∀ σ H Q, t' σ H Q → t σ H Q) : PA X e t' := ⟨fun pos pins s σ H Q I q => h.run pos pins s σ H Q I (k σ H Q q)⟩
theorem PE.none {e : Expr} {t : TE} (k : ∀ σ H Q, ¬ t σ H Q) : PE X e t := ⟨fun _ _ σ H Q _ q => (k σ H Q q).elim⟩
theorem PT.none {e : Expr} {t : TT} (k : ∀ σ H Q, ¬ t σ H Q) : PT X e t := ⟨fun _ _ σ H Q _ q => (k σ H Q q).elim⟩
theorem PE.or {e : Expr} {t u : TE} (h : PE X e t) (h' : PE X e u) : PE X e (fun σ H Q => t σ H Q ∨ u σ H Q) := ⟨fun pins s σ H Q I q => q.elim (h.run pins s σ H Q I) (h'.run pins s σ H Q I)⟩
theorem lim_eq : lim = sizeLine := by rw [sizeLine_eq]; rfl
theorem okN_dbg {x : Str} (h : okN x = true) : (x == ("__debug__" : Str)) = false ∧ (x == ("__classdict__" : Str)) = false ∧ x ≠ "__name__" := by
  unfold okN at h
  simp only [Bool.and_eq_true, Bool.not_eq_true'] at h
  exact ⟨h.1.1, h.1.2, fun e => by rw [e] at h; simp at h⟩
theorem star_cons {e : Expr} (h : plainE e = true) (es : List Expr) (env : Env) : starEach (e :: es) env = (false, eval e env) :: starEach es env := by
  cases e <;> first | rfl | (cases h; done)
theorem star_any {es : List Expr} (h : es.all plainE = true) (p : Pos) (env : Env) : (backTo p (starEach es env)).any (·.1) = false := by
  have q : (starEach es env).any (·.1) = false := by
    induction es with
    | nil => rfl
    | cons e es ih =>
      rw [List.all_cons, Bool.and_eq_true] at h
      rw [star_cons h.1, List.any_cons, ih h.2]
      rfl
  unfold backTo
  first
    | exact q
    | (rw [List.any_map]; exact q)
    | simp [q]
end
end Bw

set_option Elab.async false
set_option linter.all false
set_option maxRecDepth 100000
set_option maxHeartbeats 4000000
/-! Bw: enumerate of a tuple or a list, from any number -/
namespace Bw
open PySem PySem.Spec PyProof.Rows L2
/-- a tuple (b) or a list at a -/
def Sb (K : PySem.W.Frag) (b : Bool) (a : Addr) (H : Hp) (l : List V) : Prop := match b with
  | true => SqT K H a l
  | false => SqL K H a l
def Lb (b : Bool) (a : Addr) (h : Heap) (u : Array Value) : Prop := match b with
  | true => h.IsTuple a u
  | false => h.IsList a u
def Ib (b : Bool) (c a : Addr) (k : Nat) (h : Heap) : Prop := match b with
  | true => h.IsTupleIter c a k
  | false => h.IsListIter c a k
def Ob (b : Bool) (a : Addr) : Obj := match b with
  | true => { cls := .type "tuple_iterator", data := .fields #[.ref a, .int 0 0] }
  | false => { cls := .type "list_iterator", data := .fields #[.ref a, .int 0 0] }
section
variable {X : Cx} {pins : List (Addr × Obj)} {σ : L2.St} {H : Hp} {s : Shared} {b : Bool} {a : Addr}
theorem sb_there {l : List V} (I : Inv X pins σ H s) (h : Sb X.K b a H l) : ∃ us, Vals l us ∧ Lb b a s.heap us.toArray := by
  cases b with
  | true => obtain ⟨us, r, p, _⟩ := I.tuple h; exact ⟨us, r, p⟩
  | false => obtain ⟨us, r, p, _⟩ := I.list h; exact ⟨us, r, p.isList⟩
theorem sb_one {l m : List V} (I : Inv X pins σ H s) (h : Sb X.K b a H l) (h' : Sb X.K b a H m) : l = m := by
  cases b with
  | true => exact I.tuple_inj h h'
  | false => exact I.list_inj h h'
theorem lb_lt {u : Array Value} {h : Heap} (p : Lb b a h u) : a < h.objs.size := by
  cases b with
  | true => obtain ⟨o, q, _⟩ := id p; exact Heap.lt_size q
  | false => obtain ⟨o, q, _⟩ := id p; exact Heap.lt_size q
theorem ib_obj {c : Addr} {k : Nat} {h : Heap} (p : Ib b c a k h) : ∃ o : Obj, h.get? c = some o ∧ o.data = .fields #[.ref a, .int k 0] := by
  cases b with
  | true => obtain ⟨o, q, _, d⟩ := id p; exact ⟨o, q, d⟩
  | false => obtain ⟨o, q, _, d⟩ := id p; exact ⟨o, q, d⟩
theorem ib_at {c : Addr} {k : Nat} {h h' : Heap} (p : Ib b c a k h) (q : ∀ o, h.get? c = some o → h'.get? c = some o) : Ib b c a k h' := by
  cases b with
  | true => exact Heap.IsTupleIter.at p q
  | false => exact Heap.IsListIter.at p q
theorem draw_b {P : Program} {w : World} {A : Around} (hh : A.handled = none) (c : Addr) (n : a ≠ c) (u : Array Value) : Draws P w A c [c, a] u.size (fun k v => u[k]? = some v) (fun k h => Ib b c a k h ∧ Lb b a h u) := by
  cases b with
  | true => exact Draws.tuple hh c a n u
  | false => exact Draws.list hh c a n u
theorem begin_b (u : Array Value) : Begins (.ref a) (Ob b a) (fun h => Lb b a h u) := by
  cases b with
  | true => exact begins_tuple a u
  | false => exact begins_list a u
theorem ib_new {c : Addr} {h : Heap} (q : h.get? c = some (Ob b a)) : Ib b c a 0 h := by
  cases b with
  | true => exact ⟨_, q, rfl, rfl⟩
  | false => exact ⟨_, q, rfl, rfl⟩
/-- each item with its number, from c on -/
def ItW (K : PySem.W.Frag) (b : Bool) (a : Addr) (c : Int) : L2.It where
  go := fun k H => ∃ (l : List V) (y : V), Sb K b a H l ∧ l[k]? = some y
  yld := fun k H v H' => ∃ T y, v = .ref T ∧ H T = none ∧ H' = upd H T (.tup [.int (c + (k : Nat)), y]) ∧ ∀ l, Sb K b a H l → l[k]? = some y
  stop := fun k H => ∃ l : List V, Sb K b a H l ∧ l.length = k
theorem turn_w {P : Program} {w : World} {K : PySem.W.Frag} {es : List Expr} {m : Nat} {tp : Pos} (c : Int) (j d : Addr) :
    Turn P w K (.Tuple es m tp) (ItW K b a c) [j, d] j (fun k h => (∃ z, IsEnum h j d (c + (k : Nat)) z) ∧ Ib b d a k h ∧ j ≠ d ∧ j ≠ a ∧ a ≠ d) where
  mem := List.mem_cons_self ..
  obj := by
    intro k h ⟨⟨z, st⟩, it, _⟩ x hx
    obtain ⟨o, p, f⟩ := ib_obj it
    rcases List.mem_cons.mp hx with rfl | hx
    · exact ⟨_, st, by intro v q; cases q⟩
    · rw [List.mem_singleton.mp hx]
      exact ⟨o, p, by intro v q; rw [f] at q; cases q⟩
  keep := by
    intro k h h' ⟨⟨z, st⟩, it, ne⟩ f
    exact ⟨⟨z, f j (List.mem_cons_self ..) _ st⟩, ib_at it fun o p => f d (List.mem_cons_of_mem _ (List.mem_singleton.mpr rfl)) o p, ne⟩
  item := by
    intro X hP hw hK hc k pins s σ H E I fp st go
    subst hP hw hK
    obtain ⟨⟨z, en⟩, it, n1, n2, n3⟩ := st
    obtain ⟨l, y, sq, at_k⟩ := go
    obtain ⟨us, rel, lay⟩ := sb_there I sq
    obtain ⟨v0, hv0, rv0⟩ := rel.get at_k
    have lj : j < s.heap.objs.size := Heap.lt_size en
    have ld : d < s.heap.objs.size := by obtain ⟨o, p, _⟩ := ib_obj it; exact Heap.lt_size p
    have nj : j ∉ [d, a] := by simp [n1, n2]
    have D : Draws X.prog X.w X.A.in1 d [d, a] us.toArray.size (fun k v => us.toArray[k]? = some v) (fun k h => Ib b d a k h ∧ Lb b a h us.toArray) := draw_b (A := X.A.in1) (show X.A.in1.handled = none from I.ok.hd hc) d n3 _
    have kl : k < us.toArray.size := by
      have := (List.getElem?_eq_some_iff.mp hv0).1
      simpa using this
    refine wpAny_pyNext_enum_itemC D en ⟨it, lay⟩ kl n1 nj fun v h1 tk isv out nxt tup _ rest => ⟨_, rfl, ?_⟩
    have ev : v = v0 := by
      have q : us[k]? = some v := by simpa using isv
      rw [hv0] at q
      cases q
      rfl
    subst ev
    refine wpAny_letOwnedTupleGo_enum (s := { s with heap := h1, toks := tk + 1 }) out fun h2 en2 but => ?_
    have tup2 := (but.2 s.heap.objs.size (Nat.ne_of_gt lj)).trans tup
    have laid : ObjOk X.prog X.w (upd H s.heap.objs.size (.tup [.int (c + (k : Nat)), y])) h2 s.heap.objs.size (.tup [.int (c + (k : Nat)), y]) := by
      refine ⟨by show 2 ≤ sizeLine; decide, [.int (c + (k : Nat)) tk, v], .cons ⟨_, rfl⟩ (.cons rv0 .nil), ⟨_, tup2, rfl, _, rfl⟩⟩
    have I2 : Inv X pins σ (upd H s.heap.objs.size (.tup [.int (c + (k : Nat)), y])) { s with heap := h2, toks := tk + 1 } := by
      refine I.turnedNew (ch := [j, d]) (fun x o nx g => ?_) fp (Nat.le_refl _) laid
      have x1 : x ≠ j := by intro e; exact nx (by simp [e])
      have x2 : x ≠ d := by intro e; exact nx (by simp [e])
      exact (but.2 x x1).trans (rest x o x1 x2 g)
    refine ⟨V.ref s.heap.objs.size, _, I2, rfl, ⟨_, y, rfl, I.hok.fresh (Nat.le_refl _), rfl, ?_⟩, ⟨⟨v, ?_⟩, ?_, n1, n2, n3⟩, ?_⟩
    · intro l' sq'
      rw [sb_one I sq' sq]
      exact at_k
    · have : c + ((k + 1 : Nat) : Int) = c + (k : Nat) + 1 := by omega
      rw [this]
      exact en2
    · exact ib_at nxt.1 fun o p => (but.2 d (Ne.symm n1)).trans p
    · intro x hx
      have lx : x < s.heap.objs.size := by
        rcases List.mem_cons.mp hx with rfl | hx
        · exact lj
        · rw [List.mem_singleton.mp hx]; exact ld
      rw [upd_ne (Nat.ne_of_lt lx)]
      exact (fp x hx).1
  done := by
    intro X hP hw hK hc k pins s σ H E I fp st stop
    subst hP hw hK
    obtain ⟨⟨z, en⟩, it, n1, n2, n3⟩ := st
    obtain ⟨l, sq, le⟩ := stop
    obtain ⟨us, rel, lay⟩ := sb_there I sq
    obtain ⟨f0, f1, f2, f3, f4, f5⟩ := fp d (List.mem_cons_of_mem _ (List.mem_singleton.mpr rfl))
    have hl := rel.length
    have ek : k = us.toArray.size := by simp; omega
    subst ek
    have D : Draws X.prog X.w X.A.in1 d [d, a] us.toArray.size (fun k v => us.toArray[k]? = some v) (fun k h => Ib b d a k h ∧ Lb b a h us.toArray) := draw_b (A := X.A.in1) (show X.A.in1.handled = none from I.ok.hd hc) d n3 _
    exact wpAny_pyNext_enum_endD D en ⟨it, lay⟩ fun h1 ext => ⟨rfl, I.turned (t' := s.toks) (fun x o nx g => ext x o nx g) f0 f1 f3 f4 f5⟩
  self := by
    intro A k s Q E ⟨⟨z, en⟩, _⟩ h
    exact wpAny_pyIter_enum en h
/-- enumerate's own making, whatever is gone over -/
theorem enum_meet {v : Value} {o : Obj} {G : Heap → Prop} (B : Begins v o G) :
    Meets (Builtin.«enumerate.__new__» ⟨[.type "enumerate", v], []⟩) (fun _ R s => G s.heap ∧ R (.ok (.ret (.ref (s.heap.push o).objs.size))) { s with heap := (s.heap.push o).push { cls := .type "enumerate", data := .fields #[.none, .bool false, .ref s.heap.objs.size, rawInt 0, .none, .none] } }) := by
  refine .of_wp fun prog w A R s h => ?_
  obtain ⟨p, g, d, tk, os⟩ := s
  obtain ⟨hg, h⟩ := h
  have u1 := sub_enumerate
  have u2 : ∀ {A1 : Around} {E1 : Value → Shared → Prop} {Q1 : Value → Shared → Prop}, Q1 (.ref p.objs.size) ⟨p.push o, g, d, tk, os⟩ → wpAny (model prog w) A1 (pyIter v) Q1 E1 ⟨p, g, d, tk, os⟩ := by
    intro A1 E1 Q1 q
    exact B.iter prog w _ _ ⟨p, g, d, tk, os⟩ _ hg q
  wp_walk using u2
  refine wpAny_stack_any fun _ => wpAny_pure ?_
  split
  · rename_i z _ _ _ _ _
    cases (z == Value.type "enumerate") <;> (wp_walk using u2; exact ⟨_, rfl, h⟩)
  · wp_walk using u2
    exact ⟨_, rfl, h⟩
theorem enum_new {P : Program} {w : World} {A : Around} {E : Value → Shared → Prop} {v : Value} {o : Obj} {G : Heap → Prop} {Q : Value → Shared → Prop} (B : Begins v o G) (hg : G s.heap)
    (h : ∀ h1, IsEnum h1 (s.heap.objs.size + 1) s.heap.objs.size 0 .none → h1.get? s.heap.objs.size = some o → (∀ x y, s.heap.get? x = some y → h1.get? x = some y) → Q (.ref (s.heap.objs.size + 1)) { s with heap := h1 }) :
    wpAny (model P w) A (call (.type "enumerate") [v]) Q E s := by
  refine callType_new F.called_enumerate (by decide) (F.typeCall_enumerate_1 v) (F.newCall_enumerate_1 v) (fun x => F.args_object_init_2 x v) F.entry_enumerate_new (enum_meet B) ⟨hg, ?_⟩
  have e1 : (s.heap.push o).objs.size = s.heap.objs.size + 1 := Heap.size_push ..
  have e2 := Heap.get?_push_size (s.heap.push o) (o := { cls := .type "enumerate", data := .fields #[.none, .bool false, .ref s.heap.objs.size, rawInt 0, .none, .none] }) rfl
  rw [e1] at e2
  show _ ∧ _
  rw [e1]
  exact ⟨⟨_, e2, rfl⟩, h _ e2 (Heap.get?_push_of_some _ (Heap.get?_push_size _ B.free)) fun x y q => Heap.get?_push_of_some _ (Heap.get?_push_of_some _ q)⟩
theorem pie_w {es : List Expr} {m : Nat} {tp : Pos} {R : L2.It → Hp → Prop} {l : List V} {c : Int} {h1 : Heap} (I : Inv X pins σ H s) (sq : Sb X.K b a H l) (en : IsEnum h1 (s.heap.objs.size + 1) s.heap.objs.size c .none)
    (it : h1.get? s.heap.objs.size = some (Ob b a)) (k : ∀ x y, s.heap.get? x = some y → h1.get? x = some y) (q : R (ItW X.K b a c) H) : PIE X pins σ (.Tuple es m tp) R (.ref (s.heap.objs.size + 1)) { s with heap := h1 } := by
  obtain ⟨us, rel, lay⟩ := sb_there I sq
  have la := lb_lt lay
  refine ⟨s.heap.objs.size + 1, [s.heap.objs.size + 1, s.heap.objs.size], _, _, H, rfl, I.kept (t' := s.toks) k, turn_w c (s.heap.objs.size + 1) s.heap.objs.size, ⟨⟨.none, ?_⟩, ib_new it, Nat.succ_ne_self _, Nat.ne_of_gt (Nat.lt_succ_of_lt la), Nat.ne_of_lt la⟩, fun x hx => ?_, q⟩
  · have : c + ((0 : Nat) : Int) = c := by omega
    rw [this]
    exact en
  · have le : s.heap.objs.size ≤ x := by
      rcases List.mem_cons.mp hx with rfl | hx
      · omega
      · rw [List.mem_singleton.mp hx]; omega
    exact I.fpOk le (I.hok.fresh le)
def iEnu1 (K : PySem.W.Frag) (ta : TA) : TI := fun σ H R => ta σ H fun vs H1 => ∃ b a l, vs = [.ref a] ∧ Sb K b a H1 l ∧ R (ItW K b a 0) H1
def iEnu2 (K : PySem.W.Frag) (ta : TA) : TI := fun σ H R => ta σ H fun vs H1 => ∃ b a l c, vs = [.ref a, .int c] ∧ -(2 ^ 63) ≤ c ∧ c < 2 ^ 63 ∧ Sb K b a H1 l ∧ R (ItW K b a c) H1
theorem pi_enu1 {e : Expr} {ta : TA} {p pos tp : Pos} {es : List Expr} {m : Nat} (hg : Gl X "enumerate") (hm : X.mg "enumerate" = none) (ha : PA X [e] ta) (hs : starEach [e] X.env = [(false, eval e X.env)]) :
    PI X (.Tuple es m tp) (.Call (.Name "enumerate" p) [e] [] pos) (iEnu1 X.K ta) := by
  refine ⟨fun pins s σ H R I h => Call_ (ld_blt I hg hm boot_enumerate (PyProof.Rows.callWith_type1 (thn (ha.run pos pins s σ H _ I h) fun us s1 w => ?_) hs rfl))⟩
  obtain ⟨vs, H1, I1, rel, b, a, l, ex, sq, q⟩ := w
  subst ex
  cases rel with
  | cons r rr =>
    cases rr
    cases r
    obtain ⟨us, _, lay⟩ := sb_there I1 sq
    exact enum_new (begin_b us.toArray) lay fun h1 en it k => wpAny_pyIter_enum en (pie_w I1 sq en it k q)
theorem pi_enu2 {e e2 : Expr} {ta : TA} {p pos tp : Pos} {es : List Expr} {m : Nat} (hg : Gl X "enumerate") (hm : X.mg "enumerate" = none) (ha : PA X [e, e2] ta)
    (hs : starEach [e, e2] X.env = (false, eval e X.env) :: starEach [e2] X.env) (hpl : (backTo pos (starEach [e2] X.env)).any (·.1) = false) :
    PI X (.Tuple es m tp) (.Call (.Name "enumerate" p) [e, e2] [] pos) (iEnu2 X.K ta) := by
  refine ⟨fun pins s σ H R I h => Call_ (ld_blt I hg hm boot_enumerate (PyProof.Rows.callWith_type1 (thn (ha.run pos pins s σ H _ I h) fun us s1 w => ?_) hs hpl))⟩
  obtain ⟨vs, H1, I1, rel, b, a, l, c, ex, c1, c2, sq, q⟩ := w
  subst ex
  cases rel with
  | cons r rr =>
    cases rr with
    | cons r' rr =>
      cases rr
      cases r
      obtain ⟨t, rfl⟩ := r'
      obtain ⟨us, _, lay⟩ := sb_there I1 sq
      exact enum_begins (begin_b us.toArray) lay c1 c2 fun h1 en it _ k => wpAny_pyIter_enum en (pie_w I1 sq en it k q)
theorem walk_w {K : PySem.W.Frag} {l : List V} {c : Int} : Walk (ItW K b a c) l.length (fun H => Sb K b a H l) (YPair (fun k => some (.int (c + (k : Nat)))) (fun k => l[k]?)) := by
  refine ⟨fun k _ hk q => ⟨l, l[k], q, by simp [hk]⟩, fun _ q => ⟨l, q, rfl⟩, fun k H v H' _ q y => ?_⟩
  obtain ⟨T, z, y1, y2, y3, y4⟩ := y
  exact ⟨T, .int (c + (k : Nat)), z, y1, y2, y3, rfl, y4 l q⟩
/-! ### list(range(..)), tuple(range(..)) -/
theorem rng3_ok {i j c : Int} {zs : List Int} (h : rng3 i j c = some zs) : c ≠ 0 ∧ c.natAbs < 1073741824 ∧ Builtin.Range.small i j c = true ∧ ∃ n : Nat, Builtin.Range.rangeSize i j c = n ∧ n ≤ lim ∧ zs = (List.range n).map fun k : Nat => i + (k : Int) * c := by
  unfold rng3 at h
  split at h
  · rename_i hh
    cases h
    rw [Bool.and_eq_true, Bool.and_eq_true] at hh
    obtain ⟨⟨h1, h2⟩, h3⟩ := hh
    obtain ⟨a1, a2⟩ := of_decide_eq_true h1
    obtain ⟨b1, b2⟩ := of_decide_eq_true h3
    exact ⟨a1, a2, h2, _, b2, b1, rfl⟩
  · cases h
theorem rng_vals {i c : Int} {n : Nat} {acc : Array Value} (h : ItemsOf (fun k v => ∃ t, v = .int (i + k * c) t) acc n) : Vals (((List.range n).map fun k : Nat => i + (k : Int) * c).map V.int) acc.toList := by
  have e : acc.toList.length = n := by rw [Array.length_toList]; exact h.1
  rw [List.map_map, ← e]
  refine vals_of_get acc.toList _ fun k u hk => ?_
  obtain ⟨t, rfl⟩ := h.2 k u (by rw [← hk, Array.getElem?_toList])
  exact ⟨t, rfl⟩
/-- what range's arguments tell -/
def rngV : List V → Option (List Int)
  | [.int n] => rng3 0 n 1
  | [.int i, .int j] => rng3 i j 1
  | [.int i, .int j, .int c] => rng3 i j c
  | _ => none
def rngO (X : Cx) (pins : List (Addr × Obj)) (σ : L2.St) (Q : List Int → Hp → Prop) (v : Value) (s : Shared) : Prop := ∃ r i j c t u w zs H, v = .ref r ∧ IsRange s.heap r i j c t u w ∧ Inv X pins σ H s ∧ rng3 i j c = some zs ∧ Q zs H
theorem rng_made {e : Expr} {es : List Expr} {ta : TA} {p pos : Pos} {Q : List Int → Hp → Prop} (hg : Gl X "range") (hm : X.mg "range" = none) (ha : PA X (e :: es) ta) (hs : starEach (e :: es) X.env = (false, eval e X.env) :: starEach es X.env) (hpl : (backTo pos (starEach es X.env)).any (·.1) = false)
    (I : Inv X pins σ H s) (h : ta σ H fun vs H1 => ∃ zs, rngV vs = some zs ∧ Q zs H1) : wpAny (model X.prog X.w) X.A (eval (.Call (.Name "range" p) (e :: es) [] pos) X.env) (rngO X pins σ Q) X.xe s := by
  refine Call_ (ld_blt I hg hm boot_range (PyProof.Rows.callWith_type1 (thn (ha.run pos pins s σ H _ I h) fun us s1 w => ?_) hs hpl))
  obtain ⟨vs, H1, I1, rel, zs, ez, q⟩ := w
  match vs, rel, ez with
  | [.int n], rel, ez =>
    cases rel with
    | cons r rr =>
      cases rr
      obtain ⟨t, rfl⟩ := r
      exact call_range_1 ⟨_, 0, n, 1, _, _, _, zs, H1, rfl, IsRange.new _ _ _ _ _ _ _, I1.kept fun x u g => Heap.get?_push_of_some _ g, ez, q⟩
  | [.int i, .int j], rel, ez =>
    cases rel with
    | cons r rr =>
      cases rr with
      | cons r' rr =>
        cases rr
        obtain ⟨t, rfl⟩ := r
        obtain ⟨t', rfl⟩ := r'
        exact call_range_2 ⟨_, i, j, 1, _, _, _, zs, H1, rfl, IsRange.new _ _ _ _ _ _ _, I1.kept fun x u g => Heap.get?_push_of_some _ g, ez, q⟩
  | [.int i, .int j, .int c], rel, ez =>
    cases rel with
    | cons r rr =>
      cases rr with
      | cons r' rr =>
        cases rr with
        | cons r2 rr =>
          cases rr
          obtain ⟨t, rfl⟩ := r
          obtain ⟨t', rfl⟩ := r'
          obtain ⟨t2, rfl⟩ := r2
          obtain ⟨c0, c1, _⟩ := rng3_ok ez
          exact call_range_3 c0 ⟨_, i, j, c, _, _, _, zs, H1, rfl, IsRange.new _ _ _ _ _ _ _, I1.kept fun x u g => Heap.get?_push_of_some _ g, ez, q⟩ (.inl (PyProof.noPylong_small c1))
theorem pe_rng {tp : Bool} {nm : Str} {e : Expr} {es : List Expr} {ta : TA} {p pos p2 pos2 : Pos} (hn : nm = if tp then "tuple" else "list") (hc : X.calm = true) (hg2 : Gl X nm) (hm2 : X.mg nm = none) (hg : Gl X "range") (hm : X.mg "range" = none) (ha : PA X (e :: es) ta)
    (hs : starEach (e :: es) X.env = (false, eval e X.env) :: starEach es X.env) (hpl : (backTo pos (starEach es X.env)).any (·.1) = false) :
    PE X (.Call (.Name nm p2) [.Call (.Name "range" p) (e :: es) [] pos] [] pos2) (fun σ H Q => ta σ H fun vs H1 => ∃ zs, rngV vs = some zs ∧ ∀ q, H1 q = none → Q (.ref q) (upd H1 q (if tp then .tup (zs.map V.int) else .lst (zs.map V.int)))) := by
  refine ⟨fun pins s σ H Q I h => ?_⟩
  have na : starEach [Expr.Call (.Name "range" p) (e :: es) [] pos] X.env = (false, eval (.Call (.Name "range" p) (e :: es) [] pos) X.env) :: starEach [] X.env := rfl
  cases tp with
  | true =>
    subst hn
    refine Call_ (ld_blt I hg2 hm2 boot_tuple (PyProof.Rows.callWith_type1 (args_cons (thn (rng_made hg hm ha hs hpl I h) fun x s1 w => args_nil ?_) na) na))
    obtain ⟨r, i, j, c, t, u, w, zs, H1, rfl, hr, I1, ez, q⟩ := w
    obtain ⟨_, _, sm, n, en, le, rfl⟩ := rng3_ok ez
    refine call_tuple_range (n := n) (I1.ok.hd hc) hr sm en le fun h1 tk acc k hi => ?_
    have I2 : Inv X pins σ H1 { s1 with heap := h1, toks := tk } := I1.kept k
    refine ⟨.ref h1.objs.size, _, I2.laid (t' := tk) (o := .tup (((List.range n).map fun k : Nat => i + (k : Int) * c).map V.int)) (fun x o g => Heap.get?_push_of_some _ g) (Nat.le_refl _) ⟨?_, acc.toList, rng_vals hi, ?_⟩, rfl, q _ (I2.hok.fresh (Nat.le_refl _))⟩
    · rw [List.length_map, List.length_map, List.length_range, ← lim_eq]; exact le
    · rw [Array.toArray_toList]; exact IsTup.new _ _
  | false =>
    subst hn
    refine Call_ (ld_blt I hg2 hm2 boot_list (PyProof.Rows.callWith_type1 (args_cons (thn (rng_made hg hm ha hs hpl I h) fun x s1 w => args_nil ?_) na) na))
    obtain ⟨r, i, j, c, t, u, w, zs, H1, rfl, hr, I1, ez, q⟩ := w
    obtain ⟨_, _, sm, n, en, le, rfl⟩ := rng3_ok ez
    refine call_list_range (n := n) (I1.ok.hd hc) hr sm en le fun h1 tk acc cc k e1 hi => ?_
    refine ⟨.ref s1.heap.objs.size, _, I1.laid (o := .lst (((List.range n).map fun k : Nat => i + (k : Int) * c).map V.int)) k (Nat.le_refl _) ⟨?_, acc.toList, cc, rng_vals hi, ?_⟩, rfl, q _ (I1.hok.fresh (Nat.le_refl _))⟩
    · rw [List.length_map, List.length_map, List.length_range, ← lim_eq]; exact le
    · rw [Array.toArray_toList]; exact e1
end
end Bw

set_option Elab.async false
set_option linter.all false
set_option maxRecDepth 100000
set_option maxHeartbeats 4000000
/-! Bw: zip of any two of lists and tuples -/
namespace Bw
open PySem PySem.Spec PyProof.Rows L2 PySem.W
def ItzM (K : PySem.W.Frag) (b1 b2 : Bool) (a b : Addr) : L2.It where
  go := fun k H => ∃ (l m : List V) (x y : V), Sb K b1 a H l ∧ Sb K b2 b H m ∧ l[k]? = some x ∧ m[k]? = some y
  yld := fun k H v H' => ∃ T x y, v = .ref T ∧ H T = none ∧ H' = upd H T (.tup [x, y]) ∧ (∀ l, Sb K b1 a H l → l[k]? = some x) ∧ ∀ m, Sb K b2 b H m → m[k]? = some y
  stop := fun k H => ∃ l m : List V, Sb K b1 a H l ∧ Sb K b2 b H m ∧ k ≤ l.length ∧ k ≤ m.length ∧ (k = l.length ∨ k = m.length)
section
variable {X : Cx} {pins : List (Addr × Obj)} {σ : L2.St} {H : Hp} {s : Shared} {b1 b2 : Bool} {a b z TI TO i1 i2 : Addr}
/-- how a zip that goes over both stands -/
def StzM (b1 b2 : Bool) (a b z TI TO i1 i2 : Addr) (k : Nat) (h : Heap) : Prop := IsZip h z TI TO .none ∧ IsTupOf2 h TI (.ref i1) (.ref i2) ∧ (∃ x y, IsTupOf2 h TO x y) ∧ Ib b1 i1 a k h ∧ Ib b2 i2 b k h
theorem stz_lt {k : Nat} {h : Heap} (st : StzM b1 b2 a b z TI TO i1 i2 k h) : ∀ c ∈ [z, TI, TO, i1, i2], ∃ o, h.get? c = some o ∧ ∀ v, o.data ≠ .cell v := by
  obtain ⟨hz, hI, ⟨x, y, hO⟩, h1, h2⟩ := st
  obtain ⟨o1, p1, f1⟩ := ib_obj h1
  obtain ⟨o2, p2, f2⟩ := ib_obj h2
  intro c hc
  simp only [List.mem_cons, List.not_mem_nil, or_false] at hc
  rcases hc with rfl | rfl | rfl | rfl | rfl
  · exact ⟨_, hz, fun v q => by cases q⟩
  · exact ⟨_, hI, fun v q => by cases q⟩
  · exact ⟨_, hO, fun v q => by cases q⟩
  · exact ⟨o1, p1, fun v q => by rw [f1] at q; cases q⟩
  · exact ⟨o2, p2, fun v q => by rw [f2] at q; cases q⟩
theorem turn_zM {P : Program} {w : World} {K : PySem.W.Frag} {es : List Expr} {m : Nat} {tp : Pos} (S : ZipSep2 z TI TO i1 i2 [i1, a] [i2, b]) (n1 : a ≠ i1) (n2 : b ≠ i2) :
    Turn P w K (.Tuple es m tp) (ItzM K b1 b2 a b) [z, TI, TO, i1, i2] z (StzM b1 b2 a b z TI TO i1 i2) where
  mem := List.mem_cons_self ..
  obj := fun k h st => stz_lt st
  keep := by
    intro k h h' ⟨hz, hI, ⟨x, y, hO⟩, h1, h2⟩ f
    exact ⟨f z (by simp) _ hz, f TI (by simp) _ hI, ⟨x, y, f TO (by simp) _ hO⟩, ib_at h1 fun o p => f i1 (by simp) o p, ib_at h2 fun o p => f i2 (by simp) o p⟩
  item := by
    intro X hP hw hK hc k pins s σ H E I fp st go
    subst hP hw hK
    have big := stz_lt st
    obtain ⟨hz, hI, ⟨x0, y0, hO⟩, h1, h2⟩ := st
    obtain ⟨l, m, x, y, q1, q2, e1, e2⟩ := go
    obtain ⟨us, r1, p1⟩ := sb_there I q1
    obtain ⟨ws, r2, p2⟩ := sb_there I q2
    obtain ⟨u, hu, ru⟩ := r1.get e1
    obtain ⟨v, hv, rv⟩ := r2.get e2
    have hd : X.A.in1.handled = none := I.ok.hd hc
    have D1 : Draws X.prog X.w X.A.in1 i1 [i1, a] us.toArray.size (fun k v => us.toArray[k]? = some v) (fun k h => Ib b1 i1 a k h ∧ Lb b1 a h us.toArray) := draw_b hd i1 n1 _
    have D2 : Draws X.prog X.w X.A.in1 i2 [i2, b] ws.toArray.size (fun k v => ws.toArray[k]? = some v) (fun k h => Ib b2 i2 b k h ∧ Lb b2 b h ws.toArray) := draw_b hd i2 n2 _
    have k1 : k < us.toArray.size := by
      have := (List.getElem?_eq_some_iff.mp hu).1
      simpa using this
    have k2 : k < ws.toArray.size := by
      have := (List.getElem?_eq_some_iff.mp hv).1
      simpa using this
    have lz : z < s.heap.objs.size := Heap.lt_size hz
    refine wpAny_pyNext_zipD2_item S D1 D2 hz hI hO ⟨h1, p1⟩ ⟨h2, p2⟩ k1 k2 fun u' v' hp tk g1 g2 z' O' t1 t2 T' big' rest => ⟨_, rfl, ?_⟩
    have eu : u' = u := by
      have q : us[k]? = some u' := by simpa using g1
      rw [hu] at q
      cases q
      rfl
    have ev : v' = v := by
      have q : ws[k]? = some v' := by simpa using g2
      rw [hv] at q
      cases q
      rfl
    subst eu ev
    refine wpAny_letOwnedTupleGo_zip (s := { s with heap := hp, toks := tk }) z' fun h3 z3 but => ?_
    have T3 := (but.2 s.heap.objs.size (Nat.ne_of_gt lz)).trans T'
    have laid : ObjOk X.prog X.w (upd H s.heap.objs.size (.tup [x, y])) h3 s.heap.objs.size (.tup [x, y]) := ⟨by show 2 ≤ sizeLine; decide, [u', v'], .cons ru (.cons rv .nil), ⟨_, T3, rfl, _, rfl⟩⟩
    have I2 : Inv X pins σ (upd H s.heap.objs.size (.tup [x, y])) { s with heap := h3, toks := tk } := by
      refine I.turnedNew (ch := [z, TI, TO, i1, i2]) (fun c o nc g => ?_) fp (Nat.le_refl _) laid
      simp only [List.mem_cons, List.not_mem_nil, or_false, not_or] at nc
      exact (but.2 c nc.1).trans (rest c o nc.1 nc.2.2.1 nc.2.2.2.1 nc.2.2.2.2 g)
    have nTI : ∀ o, s.heap.get? TI = some o → h3.get? TI = some o := fun o g => (but.2 TI S.TIz).trans (rest TI o S.TIz S.TITO S.TIi1 S.TIi2 g)
    refine ⟨V.ref s.heap.objs.size, _, I2, rfl, ⟨_, x, y, rfl, I.hok.fresh (Nat.le_refl _), rfl, fun l' q => by rw [sb_one I q q1]; exact e1, fun m' q => by rw [sb_one I q q2]; exact e2⟩,
      ⟨z3, nTI _ hI, ⟨u', v', (but.2 TO S.TOz).trans O'⟩, ib_at t1.1 fun o p => (but.2 i1 (Ne.symm S.zi1)).trans p, ib_at t2.1 fun o p => (but.2 i2 (Ne.symm S.zi2)).trans p⟩, fun c hcm => ?_⟩
    obtain ⟨o, g, _⟩ := big c hcm
    rw [upd_ne (Nat.ne_of_lt (Heap.lt_size g))]
    exact (fp c hcm).1
  done := by
    intro X hP hw hK hc k pins s σ H E I fp st stop
    subst hP hw hK
    obtain ⟨hz, hI, ⟨x0, y0, hO⟩, h1, h2⟩ := st
    obtain ⟨l, m, q1, q2, l1, l2, l3⟩ := stop
    obtain ⟨us, r1, p1⟩ := sb_there I q1
    obtain ⟨ws, r2, p2⟩ := sb_there I q2
    have hd : X.A.in1.handled = none := I.ok.hd hc
    have D1 : Draws X.prog X.w X.A.in1 i1 [i1, a] us.toArray.size (fun k v => us.toArray[k]? = some v) (fun k h => Ib b1 i1 a k h ∧ Lb b1 a h us.toArray) := draw_b hd i1 n1 _
    have D2 : Draws X.prog X.w X.A.in1 i2 [i2, b] ws.toArray.size (fun k v => ws.toArray[k]? = some v) (fun k h => Ib b2 i2 b k h ∧ Lb b2 b h ws.toArray) := draw_b hd i2 n2 _
    have z1 : us.toArray.size = l.length := by rw [r1.length]; simp
    have z2 : ws.toArray.size = m.length := by rw [r2.length]; simp
    refine wpAny_pyNext_zipD2_end S D1 D2 hz hI hO ⟨h1, p1⟩ ⟨h2, p2⟩ (by omega) (by omega) (by rw [z1, z2]; exact l3) fun hp tk rest => ⟨rfl, I.turnedL (ch := [z, TI, TO, i1, i2]) (fun c o nc g => ?_) fp⟩
    simp only [List.mem_cons, List.not_mem_nil, or_false, not_or] at nc
    exact rest c o nc.1 nc.2.2.1 nc.2.2.2.1 nc.2.2.2.2 g
  self := fun A k s Q E st h => wpAny_pyIter_zip st.1 h
def iZipM (K : PySem.W.Frag) (ta : TA) : L2.TI := fun σ H R => ta σ H fun vs H1 => ∃ b1 b2 a b l m, vs = [.ref a, .ref b] ∧ Sb K b1 a H1 l ∧ Sb K b2 b H1 m ∧ R (ItzM K b1 b2 a b) H1
theorem pi_zM {e e2 : Expr} {ta : TA} {p pos tp : Pos} {es : List Expr} {m : Nat} (hg : Gl X "zip") (hm : X.mg "zip" = none) (ha : PA X [e, e2] ta)
    (hs : starEach [e, e2] X.env = (false, eval e X.env) :: starEach [e2] X.env) (hpl : (backTo pos (starEach [e2] X.env)).any (·.1) = false) :
    PI X (.Tuple es m tp) (.Call (.Name "zip" p) [e, e2] [] pos) (iZipM X.K ta) := by
  refine ⟨fun pins s σ H R I h => Call_ (ld_blt I hg hm PyProof.Rows.boot_zip (PyProof.Rows.callWith_type1 (thn (ha.run pos pins s σ H _ I h) fun us s1 ⟨vs, H1, I1, rel, b1, b2, a, b, l, m', ex, q1, q2, q⟩ => ?_) hs hpl))⟩
  subst ex
  cases rel with
  | cons r rr =>
    cases rr with
    | cons r' rr =>
      cases rr
      cases r
      cases r'
      obtain ⟨us, _, p1⟩ := sb_there I1 q1
      obtain ⟨ws, _, p2⟩ := sb_there I1 q2
      have la := lb_lt p1
      have lb := lb_lt p2
      refine zip_begins2 (begin_b us.toArray) (begin_b ws.toArray) p1 p2 fun h' hz hI hO g1 g2 _ k => wpAny_pyIter_zip hz ?_
      refine ⟨s1.heap.objs.size + 4, [s1.heap.objs.size + 4, s1.heap.objs.size + 2, s1.heap.objs.size + 3, s1.heap.objs.size, s1.heap.objs.size + 1], _, _, H1, rfl, I1.kept (t' := s1.toks) k,
        turn_zM (zip_sep2 (fp1 := [a]) (fp2 := [b]) (fun c hc => by rw [List.mem_singleton.mp hc]; exact la) (fun c hc => by rw [List.mem_singleton.mp hc]; exact lb)) (Nat.ne_of_lt la) (Nat.ne_of_lt (Nat.lt_succ_of_lt lb)), ⟨hz, hI, ⟨_, _, hO⟩, ib_new g1, ib_new g2⟩, fun c hc => ?_, q⟩
      have le : s1.heap.objs.size ≤ c := by
        simp only [List.mem_cons, List.not_mem_nil, or_false] at hc
        rcases hc with rfl | rfl | rfl | rfl | rfl <;> omega
      exact I1.fpOk le (I1.hok.fresh le)
end
end Bw

set_option Elab.async false
set_option linter.all false
set_option maxRecDepth 100000
set_option maxHeartbeats 4000000
/-! Bw: operations on values -/
namespace Bw
open PySem PySem.Spec PyProof.Rows L2
section
variable {g : Gd} {X : Cx} {rho : List Addr} {H : Hp} {s : Sto} {Wv : Value → Option Addr → Hp → Prop} {Q : VK}
theorem Po.val {α β : Type} {Rl : List Addr → Hp → β → α → Prop} {v : α} {x : β} {Q : β → Hp → Prop} (h : Po g Wv rho H Rl (.ok v s) Q) (S : StR g.fa rho H s) (r : Rl rho H x v) : Q x H := h rho H x (Evo.refl _ _) S r
theorem mk_tup {ds : List D} {xs : List V} (h : Po g Wv rho H (RV g.fa) (.ok (.tup ds) s) Q) (S : StR g.fa rho H s) (r : RVs g.fa rho H xs ds) : ∀ p, H p = none → Q (.ref p) (upd H p (.tup xs)) :=
  fun p n => h rho _ _ (Evo.laid n) (S.laid n) (.tup upd_same (S.out n) (r.mono (Evo.laid n)))
theorem mk_lst {ds : List D} {xs : List V} (h : Po g Wv rho H (RV g.fa) (.ok (.lst ds) s) Q) (S : StR g.fa rho H s) (r : RVs g.fa rho H xs ds) : ∀ p, H p = none → Q (.ref p) (upd H p (.lst xs)) :=
  fun p n => h rho _ _ (Evo.laid n) (S.laid n) (.lst upd_same (S.out n) (r.mono (Evo.laid n)))
theorem mk_ref {ds : List D} {xs : List V} (h : Po g Wv rho H (RV g.fa) (.ok (.ref s.length) (s ++ [.lst false ds])) Q) (S : StR g.fa rho H s) (r : RVs g.fa rho H xs ds) (c : cleans ds = true) : ∀ p, H p = none → Q (.ref p) (upd H p (.lst xs)) :=
  fun p n => h (rho ++ [p]) _ _ (Evo.grown n) (S.grown n r c) (.ref (by rw [← S.len]; simp))
theorem mkL_len {m : Bool} {ds : List D} (h : Po g Wv rho H (RV g.fa) (mkL m ds s) Q) : ds.length ≤ sizeLine := by
  unfold mkL at h
  split at h
  · rename_i z
    rw [← lim_eq]; exact z
  · exact h.elim
theorem mkL_ok {m : Bool} {ds : List D} {xs : List V} (h : Po g Wv rho H (RV g.fa) (mkL m ds s) Q) (S : StR g.fa rho H s) (r : RVs g.fa rho H xs ds) : ∀ p, H p = none → Q (.ref p) (upd H p (.lst xs)) := by
  unfold mkL at h
  split at h
  · cases m with
    | true =>
      simp only [if_true] at h
      split at h
      · rename_i c
        exact mk_ref h S r c
      · exact h.elim
    | false => exact mk_lst h S r
  · exact h.elim
/-! ### truth -/
theorem tru_of {K : PySem.W.Frag} {x : V} {d : D} {k : Bool} (S : StR g.fa rho H s) (r : RV g.fa rho H x d) (h : truth s d = some k) : TruV K x H k := by
  cases r with
  | non => cases h; rfl
  | bl b => cases h; rfl
  | int i => cases h; rfl
  | str z =>
    simp only [truth] at h
    split at h
    · rename_i hl
      cases h
      exact ⟨by rw [← lim_eq]; exact hl, rfl⟩
    · cases h
  | @ref i a hi =>
    simp only [truth] at h
    split at h
    · rename_i lk xs e
      cases h
      obtain ⟨ys, h1, h2⟩ := S.some hi e
      refine .inl ⟨ys, SqL.of h1, ?_⟩
      cases h2 <;> rfl
    · cases h
  | tup h1 n r =>
    cases h
    refine .inr (.inl ⟨_, SqT.of h1, ?_⟩)
    cases r <;> rfl
  | lst h1 n r =>
    cases h
    refine .inl ⟨_, SqL.of h1, ?_⟩
    cases r <;> rfl
  | scr h1 n => cases h
  | fn h1 => cases h
/-! ### two-place operations -/
def rBin (g : Gd) (o : Bop) : R2 := fun x y H Q => ∃ Wv rho d1 d2 s, StR g.fa rho H s ∧ RV g.fa rho H x d1 ∧ RV g.fa rho H y d2 ∧ Po g Wv rho H (RV g.fa) (binD o d1 d2 s) Q
theorem wide_ok {i j : Int} (h : (wide i && wide j) = true) : CMulW i j := by
  unfold wide at h
  simp only [Bool.and_eq_true, decide_eq_true_eq] at h
  show i.natAbs.log2 + j.natAbs.log2 < 1000000
  omega
theorem okDiv_ok {i j : Int} (h : okDiv j = true) : CDivW i j := by
  unfold okDiv at h
  exact (of_decide_eq_true h : 0 < j ∧ j.natAbs.log2 < 9000)
theorem okDivN_ok {i j : Int} (h : okDivN j = true) : CDivN i j := by
  unfold okDivN at h
  exact (of_decide_eq_true h : j ≠ 0 ∧ j.natAbs < 1073741824)
theorem okPow_ok {i j : Int} (h : decide (0 ≤ j ∧ j ≤ 1000000 ∧ i.natAbs < 2 ^ 64) = true) : CPow i j := (of_decide_eq_true h : 0 ≤ j ∧ j ≤ 1000000 ∧ i.natAbs < 2 ^ 64)
theorem lst_at {v : V} {d : D} {ds : List D} (S : StR g.fa rho H s) (r : RV g.fa rho H v d) (h : lstOf s d = some ds) : ∃ a xs, v = .ref a ∧ H a = some (.lst xs) ∧ RVs g.fa rho H xs ds := by
  cases r <;> first | (simp [lstOf] at h; done) | skip
  · rename_i i a hi
    simp only [lstOf] at h
    split at h
    · rename_i lk xs e
      cases h
      obtain ⟨ys, h1, h2⟩ := S.some hi e
      exact ⟨a, ys, rfl, h1, h2⟩
    · cases h
  · rename_i h1 n1 q1
    cases h
    exact ⟨_, _, rfl, h1, q1⟩
theorem op_addD : OpR X (binaryOp .Add) (rBin g .add) := by
  intro pins s σ H x y v u Q I rx ry h
  obtain ⟨Wv, rho, d1, d2, st, S, r1, r2, h⟩ := h
  have go : ∀ m, Po g Wv rho H (RV g.fa) (catL m d1 d2 st) Q → wpAny (model X.prog X.w) X.A (binaryOp Operator.Add v u) (EP X pins σ Q) X.xe s := fun m h => by
    unfold catL at h
    split at h
    · rename_i ds es e1 e2
      obtain ⟨a, xs, rfl, h1, q1⟩ := lst_at S r1 e1
      obtain ⟨b, ys, rfl, h2, q2⟩ := lst_at S r2 e2
      have hl := mkL_len h
      rw [List.length_append, ← q1.length, ← q2.length] at hl
      exact op_cat pins s σ H _ _ v u Q I rx ry ⟨a, b, xs, ys, rfl, rfl, h1, h2, hl, mkL_ok h S (q1.append q2)⟩
    · exact h.elim
  cases r1 with
  | int i =>
    cases r2 <;> first | exact h.elim | skip
    exact op_add pins s σ H _ _ v u Q I rx ry ⟨_, _, rfl, rfl, h.val S (.int _)⟩
  | str z =>
    cases r2 <;> first | exact h.elim | skip
    simp only [binD] at h
    split at h
    · rename_i hl
      exact op_add_str pins s σ H _ _ v u Q I rx ry ⟨_, _, rfl, rfl, by rw [← lim_eq]; exact hl, h.val S (.str _)⟩
    · exact h.elim
  | @tup a xs ds h1 n1 q1 =>
    cases r2 <;> first | exact h.elim | skip
    rename_i b ys es h2 n2 q2
    simp only [binD] at h
    split at h
    · rename_i hl
      refine op_catA pins s σ H _ _ v u Q I rx ry ⟨a, b, xs, ys, rfl, rfl, SqT.of h1, SqT.of h2, by rw [← lim_eq, q1.length, q2.length]; exact hl, fun e => ?_, fun _ e => ?_, fun _ _ => mk_tup h S (q1.append q2)⟩
      · subst e
        cases q1
        exact h.val S (.tup h2 n2 q2)
      · subst e
        cases q2
        rw [List.append_nil] at h
        exact h.val S (.tup h1 n1 q1)
    · exact h.elim
  | lst h1 n1 q1 => exact go false h
  | ref hi => exact go false h
  | non => cases r2 <;> exact h.elim
  | bl _ => cases r2 <;> exact h.elim
  | scr _ _ => cases r2 <;> exact h.elim
  | fn _ => cases r2 <;> exact h.elim
theorem op_addL : OpR X (binaryOp .Add) (rBin g .addL) := by
  intro pins s σ H x y v u Q I rx ry h
  obtain ⟨Wv, rho, d1, d2, st, S, r1, r2, h⟩ := h
  have h : Po g Wv rho H (RV g.fa) (catL true d1 d2 st) Q := by
    cases d1 <;> exact h
  unfold catL at h
  split at h
  · rename_i ds es e1 e2
    obtain ⟨a, xs, rfl, h1, q1⟩ := lst_at S r1 e1
    obtain ⟨b, ys, rfl, h2, q2⟩ := lst_at S r2 e2
    have hl := mkL_len h
    rw [List.length_append, ← q1.length, ← q2.length] at hl
    exact op_cat pins s σ H _ _ v u Q I rx ry ⟨a, b, xs, ys, rfl, rfl, h1, h2, hl, mkL_ok h S (q1.append q2)⟩
  · exact h.elim
theorem op_subD : OpR X (binaryOp .Sub) (rBin g .sub) := by
  intro pins s σ H x y v u Q I rx ry h
  obtain ⟨Wv, rho, d1, d2, st, S, r1, r2, h⟩ := h
  cases r1 <;> cases r2 <;> first | exact h.elim | skip
  exact op_sub pins s σ H _ _ v u Q I rx ry ⟨_, _, rfl, rfl, h.val S (.int _)⟩
theorem op_mulD : OpR X (binaryOp .Mult) (rBin g .mul) := by
  intro pins s σ H x y v u Q I rx ry h
  obtain ⟨Wv, rho, d1, d2, st, S, r1, r2, h⟩ := h
  cases r1 <;> cases r2 <;> first | exact h.elim | skip
  · simp only [binD] at h
    split at h
    · rename_i hl
      unfold okMul at hl
      rw [Bool.or_eq_true, Bool.or_eq_true] at hl
      rcases hl with hl | hl | hl
      · exact op_mul pins s σ H _ _ v u Q I rx ry ⟨_, _, rfl, rfl, .inl (of_decide_eq_true hl), h.val S (.int _)⟩
      · exact op_mul pins s σ H _ _ v u Q I rx ry ⟨_, _, rfl, rfl, .inr (of_decide_eq_true hl), h.val S (.int _)⟩
      · exact op_mulW pins s σ H _ _ v u Q I rx ry ⟨_, _, rfl, rfl, wide_ok hl, h.val S (.int _)⟩
    · exact h.elim
  · rename_i a xs ds h1 n1 q1 k
    simp only [binD] at h
    split at h
    · rename_i hl
      obtain ⟨e1, e2, e3, e4⟩ := of_decide_eq_true hl
      refine op_repT pins s σ H _ _ v u Q I rx ry ⟨a, k, xs, rfl, rfl, SqT.of h1, fun e => ?_, e2, e3, by rw [q1.length]; exact e4, mk_tup h S (q1.rep _)⟩
      subst e
      cases q1
      cases e1
    · exact h.elim
  · rename_i a xs ds h1 n1 q1 k
    simp only [binD] at h
    split at h
    · rename_i hl
      obtain ⟨e1, e2, e3⟩ := of_decide_eq_true hl
      exact op_rep pins s σ H _ _ v u Q I rx ry ⟨a, k, xs, rfl, rfl, h1, e1, e2, by rw [← lim_eq, q1.length]; exact e3, mk_lst h S (q1.rep _)⟩
    · exact h.elim
theorem op_fdivD : OpR X (binaryOp .FloorDiv) (rBin g .fdiv) := by
  intro pins s σ H x y v u Q I rx ry h
  obtain ⟨Wv, rho, d1, d2, st, S, r1, r2, h⟩ := h
  cases r1 <;> cases r2 <;> first | exact h.elim | skip
  simp only [binD] at h
  split at h
  · rename_i hl
    exact op_fdivW pins s σ H _ _ v u Q I rx ry ⟨_, _, rfl, rfl, okDiv_ok hl, h.val S (.int _)⟩
  · split at h
    · rename_i hl
      exact op_fdivN pins s σ H _ _ v u Q I rx ry ⟨_, _, rfl, rfl, okDivN_ok hl, h.val S (.int _)⟩
    · exact h.elim
theorem op_modD : OpR X (binaryOp .Mod) (rBin g .mod) := by
  intro pins s σ H x y v u Q I rx ry h
  obtain ⟨Wv, rho, d1, d2, st, S, r1, r2, h⟩ := h
  cases r1 <;> cases r2 <;> first | exact h.elim | skip
  simp only [binD] at h
  split at h
  · rename_i hl
    exact op_mod pins s σ H _ _ v u Q I rx ry ⟨_, _, rfl, rfl, hl, h.val S (.int _)⟩
  · split at h
    · rename_i hl
      exact op_modN pins s σ H _ _ v u Q I rx ry ⟨_, _, rfl, rfl, hl, h.val S (.int _)⟩
    · exact h.elim
theorem op_powD : OpR X (binaryOp .Pow) (rBin g .pow) := by
  intro pins s σ H x y v u Q I rx ry h
  obtain ⟨Wv, rho, d1, d2, st, S, r1, r2, h⟩ := h
  cases r1 <;> cases r2 <;> first | exact h.elim | skip
  simp only [binD] at h
  split at h
  · rename_i hl
    exact op_pow pins s σ H _ _ v u Q I rx ry ⟨_, _, rfl, rfl, okPow_ok hl, h.val S (.int _)⟩
  · exact h.elim
theorem op_binD {op : Operator} {o : Bop} (h : bopOf op = some o) : OpR X (binaryOp op) (rBin g o) := by
  cases op <;> simp only [bopOf, Option.some.injEq, reduceCtorEq] at h <;> subst h
  · exact op_addD
  · exact op_subD
  · exact op_mulD
  · exact op_modD
  · exact op_powD
  · exact op_fdivD
/-! ### comparisons -/
def rCmp (g : Gd) (o : Cop) : R2 := fun x y H Q => ∃ rho d1 d2 k, RV g.fa rho H x d1 ∧ RV g.fa rho H y d2 ∧ cmpD o d1 d2 = some k ∧ Q (.bl k) H
theorem eqD_at {K : PySem.W.Frag} {x y : V} {d1 d2 : D} {k : Bool} (r1 : RV g.fa rho H x d1) (r2 : RV g.fa rho H y d2) (h : eqD d1 d2 = some k) :
    ∃ d e, Dp K H x d ∧ Dp K H y e ∧ SeqAt.shaped d = true ∧ SeqAt.shaped e = true ∧ PyData.eqv d e = k := by
  unfold eqD at h
  split at h
  · rename_i p q e1 e2
    split at h
    · rename_i hs
      cases h
      rw [Bool.and_eq_true] at hs
      exact ⟨p, q, r1.dp e1, r2.dp e2, hs.1, hs.2, rfl⟩
    · cases h
  · cases h
theorem memD_at {K : PySem.W.Frag} {x y : V} {d1 d2 : D} {k : Bool} (r1 : RV g.fa rho H x d1) (r2 : RV g.fa rho H y d2) (h : memD d1 d2 = some k) :
    ∃ d es, (Dp K H y (.list es) ∧ SeqAt.shaped (.list es) = true ∨ Dp K H y (.tuple es) ∧ SeqAt.shaped (.tuple es) = true) ∧ Dp K H x d ∧ SeqAt.shaped d = true ∧ (es.any fun z => PyData.eqv z d) = k := by
  unfold memD at h
  split at h
  · rename_i p q e1 e2
    split at h
    · rename_i hs
      cases h
      rw [Bool.and_eq_true] at hs
      exact ⟨p, q, .inl ⟨r2.dp e2, hs.2⟩, r1.dp e1, hs.1, rfl⟩
    · cases h
  · rename_i p q e1 e2
    split at h
    · rename_i hs
      cases h
      rw [Bool.and_eq_true] at hs
      exact ⟨p, q, .inr ⟨r2.dp e2, hs.2⟩, r1.dp e1, hs.1, rfl⟩
    · cases h
  · cases h
theorem op_memD (hu : X.A.units + 65 < cLine) : OpR X (compareOp .In) (rCmp g .mem) := by
  intro pins s σ H x y v u Q I rx ry ⟨rho, d1, d2, k, r1, r2, e, q⟩
  obtain ⟨d, es, hy, hd, sd, rfl⟩ := memD_at (K := X.K) r1 r2 e
  obtain ⟨bs, k1⟩ := Dp.reads I d x v hd rx
  rcases hy with ⟨hy, sy⟩ | ⟨hy, sy⟩
  · obtain ⟨as, k2⟩ := Dp.reads I _ y u hy ry
    exact SeqAt.in_list_reads k2 k1 (SeqAt.canLay_of_shaped sy) (SeqAt.canLay_of_shaped sd) (room_in_shaped sd hu) ⟨.bl _, H, I, rfl, q⟩
  · obtain ⟨as, k2⟩ := Dp.reads I _ y u hy ry
    exact SeqAt.in_tuple_reads k2 k1 (SeqAt.canLay_of_shaped sy) (SeqAt.canLay_of_shaped sd) (room_in_shaped sd hu) ⟨.bl _, H, I, rfl, q⟩
theorem op_nmemD (hu : X.A.units + 65 < cLine) : OpR X (compareOp .NotIn) (rCmp g .nmem) := by
  intro pins s σ H x y v u Q I rx ry ⟨rho, d1, d2, k, r1, r2, e, q⟩
  obtain ⟨k0, e0, rfl⟩ : ∃ k0, memD d1 d2 = some k0 ∧ (!k0) = k := by
    simp only [cmpD] at e
    split at e
    · rename_i z ez
      cases e
      exact ⟨z, ez, rfl⟩
    · cases e
  obtain ⟨d, es, hy, hd, sd, rfl⟩ := memD_at (K := X.K) r1 r2 e0
  obtain ⟨bs, k1⟩ := Dp.reads I d x v hd rx
  rcases hy with ⟨hy, sy⟩ | ⟨hy, sy⟩
  · obtain ⟨as, k2⟩ := Dp.reads I _ y u hy ry
    exact SeqAt.notIn_list_reads k2 k1 (SeqAt.canLay_of_shaped sy) (SeqAt.canLay_of_shaped sd) (room_in_shaped sd hu) ⟨.bl _, H, I, rfl, q⟩
  · obtain ⟨as, k2⟩ := Dp.reads I _ y u hy ry
    exact SeqAt.notIn_tuple_reads k2 k1 (SeqAt.canLay_of_shaped sy) (SeqAt.canLay_of_shaped sd) (room_in_shaped sd hu) ⟨.bl _, H, I, rfl, q⟩
theorem op_ltD (hu : X.A.units + 65 < cLine) : OpR X (compareOp .Lt) (rCmp g .lt) := by
  intro pins s σ H x y v u Q I rx ry ⟨rho, d1, d2, k, r1, r2, e, q⟩
  have two : (∃ xs ys, d1 = .tup xs ∧ d2 = .tup ys) ∨ (∃ i j, d1 = .int i ∧ d2 = .int j) := by
    cases d1 <;> cases d2 <;> simp only [cmpD, reduceCtorEq] at e <;> first | exact .inl ⟨_, _, rfl, rfl⟩ | exact .inr ⟨_, _, rfl, rfl⟩
  rcases two with ⟨xs, ys, rfl, rfl⟩ | ⟨i, j, rfl, rfl⟩
  · simp only [cmpD, ltD] at e
    split at e
    · rename_i ps qs e1 e2
      split at e
      · rename_i hc
        cases e
        rw [Bool.and_eq_true] at hc
        have t1 : toP (.tup xs) = some (.tuple ps) := by simp only [toP, e1]
        have t2 : toP (.tup ys) = some (.tuple qs) := by simp only [toP, e2]
        obtain ⟨as, k1⟩ := Dp.reads I _ x v (r1.dp (K := X.K) t1) rx
        obtain ⟨bs, k2⟩ := Dp.reads I _ y u (r2.dp (K := X.K) t2) ry
        refine PySem.W.lt_data k1 k2 (by simpa [PySem.W.alike] using hc.1) (by simp) ?_ ⟨.bl _, H, I, rfl, q⟩
        have h1 : PyData.depth (.tuple ps) = PyData.depthAll ps + 1 := by simp [PyData.depth]
        have h2 := of_decide_eq_true hc.2
        have h3 := Nat.min_le_left (PyData.depth (.tuple ps)) (PyData.depth (.tuple qs))
        omega
      · cases e
    · cases e
  · cases r1
    cases r2
    cases e
    exact op_lt pins s σ H _ _ v u Q I rx ry ⟨_, _, rfl, rfl, q⟩
theorem op_cmpD (hu : X.A.units + 65 < cLine) {op : CmpOp} {o : Cop} (h : copOf op = some o) : OpR X (compareOp op) (rCmp g o) := by
  cases op <;> simp only [copOf, Option.some.injEq, reduceCtorEq] at h <;> subst h
  · intro pins s σ H x y v u Q I rx ry ⟨rho, d1, d2, k, r1, r2, e, q⟩
    obtain ⟨d, d', a, b, c1, c2, rfl⟩ := eqD_at (K := X.K) r1 r2 e
    exact op_eqD (by omega) pins s σ H x y v u Q I rx ry ⟨d, d', a, b, c1, c2, q⟩
  · intro pins s σ H x y v u Q I rx ry ⟨rho, d1, d2, k, r1, r2, e, q⟩
    simp only [cmpD] at e
    split at e
    · rename_i z ez
      cases e
      obtain ⟨d, d', a, b, c1, c2, rfl⟩ := eqD_at (K := X.K) r1 r2 ez
      exact op_neD (by omega) pins s σ H x y v u Q I rx ry ⟨d, d', a, b, c1, c2, q⟩
    · cases e
  · exact op_ltD hu
  · intro pins s σ H x y v u Q I rx ry ⟨rho, d1, d2, k, r1, r2, e, q⟩
    cases r1 <;> cases r2 <;> simp only [cmpD, reduceCtorEq, Option.some.injEq] at e
    subst e
    exact op_le pins s σ H _ _ v u Q I rx ry ⟨_, _, rfl, rfl, q⟩
  · intro pins s σ H x y v u Q I rx ry ⟨rho, d1, d2, k, r1, r2, e, q⟩
    cases r1 <;> cases r2 <;> simp only [cmpD, reduceCtorEq, Option.some.injEq] at e
    subst e
    exact op_gt pins s σ H _ _ v u Q I rx ry ⟨_, _, rfl, rfl, q⟩
  · intro pins s σ H x y v u Q I rx ry ⟨rho, d1, d2, k, r1, r2, e, q⟩
    cases r1 <;> cases r2 <;> simp only [cmpD, reduceCtorEq, Option.some.injEq] at e
    subst e
    exact op_ge pins s σ H _ _ v u Q I rx ry ⟨_, _, rfl, rfl, q⟩
  · intro pins s σ H x y v u Q I rx ry ⟨rho, d1, d2, k, r1, r2, e, q⟩
    cases r2 <;> cases r1 <;> simp only [cmpD, reduceCtorEq, Option.some.injEq] at e <;> subst e <;> exact op_isN pins s σ H _ _ v u Q I rx ry ⟨rfl, q⟩
  · intro pins s σ H x y v u Q I rx ry ⟨rho, d1, d2, k, r1, r2, e, q⟩
    cases r2 <;> cases r1 <;> simp only [cmpD, reduceCtorEq, Option.some.injEq] at e <;> subst e <;> exact op_notN pins s σ H _ _ v u Q I rx ry ⟨rfl, q⟩
  · exact op_memD hu
  · exact op_nmemD hu
/-! ### places -/
theorem place_ix (n : Nat) (i : Int) : place n i = ixN n i := rfl
theorem at_of {α : Type} {xs : List α} {i : Int} {j : Nat} {v : α} (h : place xs.length i = some j) (e : xs[j]? = some v) : atI xs i = some v := by
  unfold atI
  rw [← place_ix, h]
  exact e
theorem cutI_ix (n d : Nat) (o : Option Int) : cutI n d o = HT.sIx n d o := by
  cases o with
  | none => rfl
  | some v =>
    have h := HT.clip_eq v n d
    show (if v < 0 then (v + (n : Int)).toNat else min v.toNat n) = _
    by_cases hv : v < 0
    · rw [if_pos hv]
      rw [if_pos hv] at h
      omega
    · rw [if_neg hv]
      rw [if_neg hv] at h
      omega
theorem cut_V (xs : List V) (lo hi : Option Int) : cut xs lo hi = cutV xs lo hi := by
  unfold cut cutV
  rw [cutI_ix, cutI_ix]
theorem RVs.cut {xs : List V} {ds : List D} (r : RVs g.fa rho H xs ds) (lo hi : Option Int) : RVs g.fa rho H (cutV xs lo hi) (Bw.cut ds lo hi) := by
  rw [← cut_V]
  unfold Bw.cut
  rw [r.length]
  exact (r.drop _).take _
theorem cut_map {α β : Type} (f : α → β) (xs : List α) (lo hi : Option Int) : (cut xs lo hi).map f = cut (xs.map f) lo hi := by
  unfold cut
  rw [List.map_take, List.map_drop, List.length_map]
def rIxD (g : Gd) : R2 := fun x y H Q => ∃ Wv rho d1 d2 s, StR g.fa rho H s ∧ RV g.fa rho H x d1 ∧ RV g.fa rho H y d2 ∧ Po g Wv rho H (RV g.fa) (ixD d1 d2 s) Q
theorem items_ix {K : PySem.W.Frag} {x : V} {d : D} {k : Int} (S : StR g.fa rho H s) (r : RV g.fa rho H x d)
    (h : Po g Wv rho H (RV g.fa) (match items s d with
      | some xs => (match place xs.length k with
        | some j => (match xs[j]? with
          | some v => R.ok v s
          | none => .fail)
        | none => .fail)
      | none => .fail) Q) : rIx K x (.int k) H Q := by
  split at h
  · rename_i ds e
    obtain ⟨a, xs, rfl, hq, rs⟩ := items_at (K := K) S r e
    split at h
    · rename_i jx ep
      split at h
      · rename_i v ev
        obtain ⟨z, hz, rz⟩ := rs.at ev
        rw [← rs.length] at ep
        have hat := at_of ep hz
        rcases hq with hq | hq
        · exact .inl ⟨a, xs, k, z, rfl, rfl, hq, hat, h.val S rz⟩
        · exact .inr (.inl ⟨a, xs, k, z, rfl, rfl, hq, hat, h.val S rz⟩)
      · exact h.elim
    · exact h.elim
  · exact h.elim
theorem ix_D : IxR X (rIxD g) := by
  intro value slice pins s σ H x y v u Q I rx ry h hs
  obtain ⟨Wv, rho, d1, d2, st, S, r1, r2, h⟩ := h
  refine ix_seq value slice pins s σ H x y v u Q I rx ry ?_ hs
  cases r2 <;> first | (cases r1 <;> exact h.elim) | skip
  rename_i k
  cases r1 with
  | str z =>
    simp only [ixD] at h
    split at h
    · rename_i hl
      split at h
      · rename_i jx ep
        split at h
        · rename_i cc ec
          exact .inr (.inr ⟨z, k, cc, rfl, rfl, by rw [← lim_eq]; exact hl, at_of ep ec, h.val S (.str _)⟩)
        · exact h.elim
      · exact h.elim
    · exact h.elim
  | @scr a o ns h1 n1 =>
    simp only [ixD] at h
    split at h
    · rename_i jx ep
      split at h
      · rename_i m em
        refine .inl ⟨a, ns.map V.int, k, .int m, rfl, rfl, .inl (.inr ⟨o, h1⟩), at_of (j := jx) (by rw [List.length_map]; exact ep) (by rw [List.getElem?_map, em]; rfl), h.val S (.int _)⟩
      · exact h.elim
    · exact h.elim
  | non => exact items_ix S .non h
  | bl b => exact items_ix S (.bl b) h
  | int b => exact items_ix S (.int b) h
  | ref b => exact items_ix S (.ref b) h
  | tup a b c => exact items_ix S (.tup a b c) h
  | lst a b c => exact items_ix S (.lst a b c) h
  | fn a => exact items_ix S (.fn a) h
/-! ### slices -/
def rSlD (g : Gd) : V → Option Int → Option Int → Hp → VK → Prop := fun x lo hi H Q => ∃ Wv rho d s, StR g.fa rho H s ∧ RV g.fa rho H x d ∧ Po g Wv rho H (RV g.fa) (slD d lo hi s) Q
theorem sl_D : SlR X (rSlD g) := by
  intro pins s σ H x v vl vu lo hi sl Q I rx hs pl pu h
  obtain ⟨Wv, rho, d, st, S, r, h⟩ := h
  cases r with
  | @tup a xs ds h1 n1 r1 =>
    refine sl_tupA pins s σ H _ v vl vu lo hi sl Q I rx hs pl pu ⟨a, xs, rfl, SqT.of h1, fun e => ?_, fun _ => mk_tup h S (r1.cut lo hi)⟩
    refine h.val S ?_
    have e2 : Bw.cut ds lo hi = ds := by
      unfold Bw.cut
      rw [cutI_ix, cutI_ix, ← r1.length, e.1, e.2]
      simp [r1.length]
    rw [e2]
    exact .tup h1 n1 r1
  | @lst a xs ds h1 n1 r1 => exact sl_list pins s σ H _ v vl vu lo hi sl Q I rx hs pl pu ⟨a, xs, rfl, SqL.of h1, mk_lst h S (r1.cut lo hi)⟩
  | @scr a o ns h1 n1 =>
    refine sl_list pins s σ H _ v vl vu lo hi sl Q I rx hs pl pu ⟨a, ns.map V.int, rfl, .inl (.inr ⟨o, h1⟩), mk_lst h S ?_⟩
    rw [← cut_V, ← cut_map]
    exact RVs.ofInts _
  | @ref i a hi' =>
    simp only [slD] at h
    split at h
    · rename_i lk ds e
      obtain ⟨xs, h1, r1⟩ := S.some hi' e
      exact sl_list pins s σ H _ v vl vu lo hi sl Q I rx hs pl pu ⟨a, xs, rfl, SqL.of h1, mk_lst h S (r1.cut lo hi)⟩
    · exact h.elim
  | _ => exact h.elim
end
end Bw

set_option Elab.async false
set_option linter.all false
set_option maxRecDepth 100000
set_option maxHeartbeats 4000000
/-! Bw: sorted(list or tuple) of numbers, of tuples of numbers -/
namespace Bw
open PySem PySem.Spec PyProof.Rows L2
section
variable {prog : Program} {w : World} {A : Around} {E0 : Value → Shared → Prop} {sh : Shared}
/-- sorted of what is a list or a tuple -/
theorem sort_seq {l : Addr} {T : String} {o : Obj} {vs : List Value} {n : Nat} {lt : Value → Value → Bool} {Qv : Value → Shared → Prop} (ord : SrtO.Swo lt) (hT : T = "list" ∨ T = "tuple") (ho : sh.heap.get? l = some o) (hc : o.cls = .type T) (hd : o.data = .seq vs.toArray n) (hz : vs.length ≤ sizeLine)
    (can : 2 ≤ vs.length → ∀ (hp : Heap) (a : Addr), hp.get? a = some (seqObj "list" vs.toArray 0) → (∀ b u, sh.heap.get? b = some u → b ≠ a ∧ hp.get? b = some u) → SrtO.SortableO prog w A.in1.in1 { sh with heap := hp } a vs lt)
    (on : ∀ (out : List Value) (h1 hp : Heap) (a : Addr), SrtO.Srtd lt out → SrtO.Stb lt out vs → (∀ b u, sh.heap.get? b = some u → h1.get? b = some u) → (∀ b u, h1.get? b = some u → hp.get? b = some u) → h1.objs.size ≤ a → (∃ e, hp.get? a = some (seqObj "list" out.toArray e)) → Qv (.ref a) { sh with heap := hp }) :
    wpAny (model prog w) A (call (.builtin "sorted") [.ref l]) Qv E0 sh := by
  refine Calls.call_function_entry kind_sorted plain_sorted entry_sorted (args_sorted1 _) ?_
  unfold Builtin.«sorted»
  refine wpAny_bind (m := checkCount "sorted" 1 1 _) (wpAny_pure (wpAny_bind (wpAny_collect_seq l hT ho hc hd (fun h1 k1 => ?_) (by simpa using hz))))
  rw [show vs.toArray.toList = vs from by simp]
  refine wpAny_bind (wpAny_newList ?_ hz)
  obtain ⟨a, ea⟩ : ∃ a, a = h1.objs.size := ⟨_, rfl⟩
  obtain ⟨h2, e2⟩ : ∃ h2, h2 = h1.push (seqObj "list" vs.toArray 0) := ⟨_, rfl⟩
  have at2 : h2.get? a = some (seqObj "list" vs.toArray 0) := by rw [e2, ea]; exact Heap.get?_push_size _ rfl
  have k2 : ∀ b u, sh.heap.get? b = some u → b ≠ a ∧ h2.get? b = some u := fun b u q => by
    have q1 := k1 b u q
    exact ⟨by rw [ea]; exact Nat.ne_of_lt (Heap.lt_size q1), by rw [e2]; exact Heap.get?_push_of_some _ q1⟩
  have k3 : ∀ b u, h1.get? b = some u → b ≠ a ∧ h2.get? b = some u := fun b u q => ⟨by rw [ea]; exact Nat.ne_of_lt (Heap.lt_size q), by rw [e2]; exact Heap.get?_push_of_some _ q⟩
  show wpAny _ _ (holding [Value.ref h1.objs.size] (call (.builtin "list.sort") [.ref h1.objs.size] []) >>= fun _ => ret (.ref h1.objs.size)) _ _ { sh with heap := h1.push (seqObj "list" vs.toArray 0) }
  rw [← ea, ← e2]
  refine wpAny_bind (wpAny_holding (wpAny_call_entry slot_list_sort ⟨_, at2, rfl⟩ entry_list_sort (SrtO.list_sort_ord ord at2 hz (fun h => can h _ _ at2 k2) fun out hs hb => ⟨_, rfl, ?_⟩) (args_list_sort _)))
  refine wpAny_pure ⟨_, rfl, on out h1 _ a hs hb k1 (fun b u q => ?_) (by rw [ea]; exact Nat.le_refl _) (sortedHeap_at at2)⟩
  obtain ⟨ne, q2⟩ := k3 b u q
  exact (sortedHeap_old ne (Heap.lt_size q2)).trans q2
theorem lexL_eq : ∀ a b : List Int, lexL a b = HT.lexLt a b
  | [], [] => rfl
  | [], _ :: _ => rfl
  | _ :: _, [] => rfl
  | x :: xs, y :: ys => by
    rw [HT.lexLt_cons, ← lexL_eq xs ys]
    rfl
theorem lexL_f : lexL = HT.lexLt := by
  funext a b
  exact lexL_eq a b
theorem lexL_cons (x y : Int) (xs ys : List Int) : lexL (x :: xs) (y :: ys) = if x = y then lexL xs ys else decide (x < y) := rfl
theorem lexL_nil_cons (y : Int) (ys : List Int) : lexL [] (y :: ys) = true := rfl
theorem lex_asym (xs ys : List Int) (h : lexL xs ys = true) : lexL ys xs = false := by
  rw [lexL_f] at h ⊢
  exact NtL.lex_asym xs ys h
theorem lex_tr (xs ys zs : List Int) (h1 : lexL ys xs = false) (h2 : lexL zs ys = false) : lexL zs xs = false := by
  rw [lexL_f] at h1 h2 ⊢
  exact NtL.lex_tr xs ys zs h1 h2
theorem swo_lexL {α : Type} (k : α → List Int) : SrtO.Swo (fun v u : α => lexL (k v) (k u)) := ⟨fun x y h => lex_asym _ _ h, fun x y z h1 h2 => lex_tr _ _ _ h1 h2⟩
theorem insI_perm (x : Int) : ∀ l : List Int, (insI x l).Perm (x :: l)
  | [] => List.Perm.refl _
  | y :: ys => by
    unfold insI
    split
    · exact List.Perm.refl _
    · exact ((insI_perm x ys).cons y).trans (List.Perm.swap x y ys)
theorem insI_mem {x z : Int} {l : List Int} (h : z ∈ insI x l) : z = x ∨ z ∈ l := List.mem_cons.mp ((insI_perm x l).mem_iff.mp h)
theorem insI_pw (x : Int) : ∀ l : List Int, l.Pairwise (· ≤ ·) → (insI x l).Pairwise (· ≤ ·)
  | [], _ => List.pairwise_singleton _ _
  | y :: ys, h => by
    unfold insI
    have h2 := List.pairwise_cons.mp h
    split
    · rename_i hx
      exact List.pairwise_cons.mpr ⟨fun z hz => by
        rcases List.mem_cons.mp hz with rfl | hz
        · exact hx
        · exact Int.le_trans hx (h2.1 z hz), h⟩
    · rename_i hx
      exact List.pairwise_cons.mpr ⟨fun z hz => by
        rcases insI_mem hz with rfl | hz
        · omega
        · exact h2.1 z hz, insI_pw x ys h2.2⟩
theorem srtI_perm : ∀ l : List Int, (srtI l).Perm l
  | [] => List.Perm.refl _
  | x :: xs => (insI_perm x (srtI xs)).trans ((srtI_perm xs).cons x)
theorem srtI_pw : ∀ l : List Int, (srtI l).Pairwise (· ≤ ·)
  | [] => List.Pairwise.nil
  | x :: xs => insI_pw x _ (srtI_pw xs)
theorem srtI_eq {l ns : List Int} (h : ns.Perm l) (p : ns.Pairwise (· ≤ ·)) : ns = srtI l := List.Perm.eq_of_pairwise (le := (· ≤ ·)) (fun a b _ _ => Int.le_antisymm) p (srtI_pw l) (h.trans (srtI_perm l).symm)
/-! ### tuples of numbers, in their order -/
theorem lex_walk {b fin : Bool} {Qb : Bool → Shared → Prop} : ∀ {xs : List Value} {ns : List Int}, IntsAre xs ns → ∀ {ys : List Value} {ms : List Int}, IntsAre ys ms → ∀ i : Nat, fin = decide (ns.length < ms.length) → Qb (lexL ns ms) sh → PySem.W.KatLex prog w A b fin Qb (xs.zip ys) i sh := by
  intro xs ns hx
  induction hx with
  | nil =>
    intro ys ms hy i hf q
    cases hy with
    | nil =>
      subst hf
      exact PySem.W.kat_nil q
    | cons m u hy =>
      subst hf
      exact PySem.W.kat_nil q
  | @cons p t xs ns hx ih =>
    intro ys ms hy i hf q
    cases hy with
    | nil =>
      subst hf
      exact PySem.W.kat_nil q
    | @cons m u ys ms hy =>
      show PySem.W.KatLex prog w A b fin Qb ((Value.int p t, Value.int m u) :: xs.zip ys) i sh
      rw [lexL_cons] at q
      refine PySem.W.kat_cons (wpAny_eqBool_int ?_)
      by_cases e : p = m
      · rw [if_pos e] at q
        rw [show (p == m) = true from beq_iff_eq.mpr e]
        refine PySem.W.kat_yes (ih hy (i + 1) ?_ q)
        rw [hf, List.length_cons, List.length_cons]
        exact decide_eq_decide.mpr (by omega)
      · rw [if_neg e] at q
        rw [show (p == m) = false from beq_eq_false_iff_ne.mpr e]
        exact PySem.W.kat_no (TS.oneLt_ints _ q)
theorem tup_cmp {vs : List Value} {k : Value → List Int} (hv : ∀ v ∈ vs, TS.TupInts sh.heap v (k v)) : SrtO.Cmp prog w A sh (tuples' true) (fun p => p.1 ∈ vs) (SrtO.lt2 fun v u => lexL (k v) (k u)) := by
  intro p q hm hm'
  have t1 := hv _ hm
  have t2 := hv _ hm'
  show wpAny (model prog w) A (keyLt' (tuples' true) p.1 q.1) (fun r s' => s' = sh ∧ r = lexL (k p.1) (k q.1)) (fun _ _ => False) sh
  generalize k p.1 = ns at t1 ⊢
  generalize k q.1 = ms at t2 ⊢
  obtain ⟨a, xs, e1, ⟨o, ho, hc, n, hd⟩, i1⟩ := t1
  obtain ⟨a', ys, e2, ⟨o', ho', hc', n', hd'⟩, i2⟩ := t2
  rw [e1, e2]
  refine PySem.W.kat_lt ho hd ho' hd' (lex_walk i1 i2 0 ?_ ⟨rfl, rfl⟩)
  have l1 := i1.length
  have l2 := i2.length
  rw [Array.length_toList] at l1 l2
  exact decide_eq_decide.mpr (by omega)
theorem heads_of {h : Heap} : ∀ vs : List Value, (∀ v ∈ vs, ∃ ns, TS.TupInts h v ns ∧ ns ≠ []) → ∃ fs, PySem.W.KatTups h vs fs ∧ fs.length = vs.length ∧ ∀ f ∈ fs, ∃ i t, f = Value.int i t
  | [], _ => ⟨[], PySem.W.KatTups.nil, rfl, fun f hf => by cases hf⟩
  | v :: vs, x => by
    obtain ⟨fs, r, len, isI⟩ := heads_of vs fun u hu => x u (List.mem_cons_of_mem _ hu)
    obtain ⟨ns, ⟨a, xs, rfl, ⟨o, ho, hc, m, hd⟩, ia⟩, ne⟩ := x v (List.mem_cons_self ..)
    cases hx : xs.toList with
    | nil =>
      rw [hx] at ia
      cases ia
      exact absurd rfl ne
    | cons y ys =>
      rw [hx] at ia
      cases ia with
      | cons i t ia =>
        refine ⟨Value.int i t :: fs, PySem.W.KatTups.cons ho hc hd ?_ r, by rw [List.length_cons, len, List.length_cons], fun f hf => ?_⟩
        · have z : xs.toList[0]? = some (Value.int i t) := by rw [hx]; rfl
          simpa using z
        · rcases List.mem_cons.mp hf with rfl | hf
          · exact ⟨i, t, rfl⟩
          · exact isI f hf
theorem tup_sortable {a : Addr} {vs : List Value} {k : Value → List Int} (two : 2 ≤ vs.length) (hv : ∀ v ∈ vs, TS.TupInts sh.heap v (k v) ∧ k v ≠ []) (ha : ∀ o, sh.heap.get? a = some o → o.cls ≠ .type "tuple") : SrtO.SortableO prog w A sh a vs fun v u => lexL (k v) (k u) := by
  intro h' keep
  have hv' : ∀ v ∈ vs, TS.TupInts h' v (k v) := fun v m => (hv v m).1.keeps fun b o e c => keep b o (fun z => by subst z; exact ha o e c) e
  obtain ⟨fs, t1, t2, t3⟩ := heads_of vs fun v m => ⟨_, hv' v m, (hv v m).2⟩
  refine ⟨tuples' true, fun Q E hq => PySem.W.kat_kind (T := .type "int") t1 (by omega) (fun f hm => ?_) (by rfl) ?_, tup_cmp hv'⟩
  · obtain ⟨i, t, rfl⟩ := t3 f hm
    exact PySem.W.Looks.of_pure rfl
  · rw [show (Value.type "int" != Value.type "tuple") = true from by first | rfl | decide +kernel]
    exact hq
end
/-! ### the order itself -/
theorem lex_anti : ∀ {a b : List Int}, lexL a b = false → lexL b a = false → a = b
  | [], [], _, _ => rfl
  | [], y :: ys, h, _ => by rw [lexL_nil_cons] at h; cases h
  | x :: xs, [], _, h => by rw [lexL_nil_cons] at h; cases h
  | x :: xs, y :: ys, h1, h2 => by
    rw [lexL_cons] at h1 h2
    by_cases e : x = y
    · subst e
      rw [if_pos rfl] at h1 h2
      rw [lex_anti h1 h2]
    · rw [if_neg e] at h1
      rw [if_neg (Ne.symm e)] at h2
      have := of_decide_eq_false h1
      have := of_decide_eq_false h2
      omega
theorem insT_perm (x : List Int) : ∀ l : List (List Int), (insT x l).Perm (x :: l)
  | [] => List.Perm.refl _
  | y :: ys => by
    unfold insT
    split
    · exact ((insT_perm x ys).cons y).trans (List.Perm.swap x y ys)
    · exact List.Perm.refl _
theorem insT_pw (x : List Int) : ∀ l : List (List Int), l.Pairwise (fun a b => lexL b a = false) → (insT x l).Pairwise (fun a b => lexL b a = false)
  | [], _ => List.pairwise_singleton _ _
  | y :: ys, h => by
    have h2 := List.pairwise_cons.mp h
    unfold insT
    split
    · rename_i hx
      refine List.pairwise_cons.mpr ⟨fun z hz => ?_, insT_pw x ys h2.2⟩
      rcases List.mem_cons.mp ((insT_perm x ys).mem_iff.mp hz) with rfl | hz
      · exact lex_asym _ _ hx
      · exact h2.1 z hz
    · rename_i hx
      have hx : lexL y x = false := by simpa using hx
      refine List.pairwise_cons.mpr ⟨fun z hz => ?_, h⟩
      rcases List.mem_cons.mp hz with rfl | hz
      · exact hx
      · exact lex_tr _ _ _ hx (h2.1 z hz)
theorem srtT_perm : ∀ l : List (List Int), (srtT l).Perm l
  | [] => List.Perm.refl _
  | x :: xs => (insT_perm x (srtT xs)).trans ((srtT_perm xs).cons x)
theorem srtT_pw : ∀ l : List (List Int), (srtT l).Pairwise (fun a b => lexL b a = false)
  | [] => List.Pairwise.nil
  | x :: xs => insT_pw x _ (srtT_pw xs)
theorem srtT_eq {l m : List (List Int)} (p : m.Perm l) (h : m.Pairwise (fun a b => lexL b a = false)) : m = srtT l :=
  List.Perm.eq_of_pairwise (le := fun a b => lexL b a = false) (fun a b _ _ h1 h2 => lex_anti h2 h1) h (srtT_pw l) (p.trans (srtT_perm l).symm)
/-- the numbers of a tuple in the heap -/
def numV : V → Int
  | .int i => i
  | _ => 0
def kT (H : Hp) : V → List Int
  | .ref a => match H a with
    | some (.tup vs) => vs.map numV
    | _ => []
  | _ => []
theorem num_map (ns : List Int) : (ns.map V.int).map numV = ns := by
  rw [List.map_map]
  exact List.map_id _
theorem getI_map : ∀ l : List Int, getI (l.map D.int) = some l
  | [] => rfl
  | i :: l => by
    show (match getI (l.map D.int) with
      | some l => some (i :: l)
      | none => none) = some (i :: l)
    rw [getI_map l]
theorem getI_ok : ∀ {ds : List Bw.D} {l : List Int}, getI ds = some l → ds = l.map D.int
  | [], l, h => by cases h; rfl
  | d :: ds, l, h => by
    cases d <;> first | (unfold getI at h; cases h; done) | skip
    unfold getI at h
    split at h
    · rename_i l' e
      cases h
      rw [getI_ok e]; rfl
    · cases h
theorem getT_ok : ∀ {ds : List Bw.D} {ls : List (List Int)}, getT ds = some ls → (∀ l ∈ ls, l ≠ []) ∧ ds = ls.map tupI
  | [], ls, h => by cases h; exact ⟨fun l hl => (by cases hl), rfl⟩
  | d :: ds, ls, h => by
    cases d <;> first | (unfold getT at h; cases h; done) | skip
    unfold getT at h
    split at h
    · rename_i i l ls' e1 e2
      cases h
      obtain ⟨a, b⟩ := getT_ok e2
      refine ⟨fun m hm => ?_, by rw [b, getI_ok e1]; rfl⟩
      rcases List.mem_cons.mp hm with rfl | hm
      · exact fun z => (List.cons_ne_nil _ _ z).elim
      · exact a m hm
    · cases h
section
variable {g : Gd} {X : Cx} {rho : List Addr} {H : Hp} {s : Sto} {Q : VK}
theorem tupI_at {x : V} {l : List Int} (r : RV g.fa rho H x (tupI l)) : (∃ t, x = .ref t ∧ H t = some (.tup (l.map V.int))) ∧ kT H x = l := by
  cases r with
  | tup h n q =>
    have e := q.getI (getI_map l)
    subst e
    refine ⟨⟨_, rfl, h⟩, ?_⟩
    show (match H _ with
      | some (.tup vs) => vs.map numV
      | _ => []) = l
    rw [h]
    exact num_map l
theorem rvs_map {l : List V} {k : V → List Int} (h : ∀ x ∈ l, RV g.fa rho H x (tupI (k x))) : RVs g.fa rho H l ((l.map k).map tupI) := by
  induction l with
  | nil => exact .nil
  | cons x l ih => exact .cons (h x (List.mem_cons_self ..)) (ih fun y hy => h y (List.mem_cons_of_mem _ hy))
theorem rvs_each : ∀ {xs : List V} {ls : List (List Int)}, RVs g.fa rho H xs (ls.map tupI) → (∀ x ∈ xs, RV g.fa rho H x (tupI (kT H x)) ∧ kT H x ∈ ls) ∧ xs.map (kT H) = ls
  | [], [], _ => ⟨fun x hx => (by cases hx), rfl⟩
  | [], _ :: _, r => by cases r
  | _ :: _, [], r => by cases r
  | x :: xs, l :: ls, .cons a b => by
    obtain ⟨i1, i2⟩ := rvs_each b
    obtain ⟨_, e⟩ := tupI_at a
    refine ⟨fun y hy => ?_, by rw [List.map_cons, e, i2]⟩
    rcases List.mem_cons.mp hy with rfl | hy
    · rw [e]
      exact ⟨a, List.mem_cons_self ..⟩
    · exact ⟨(i1 y hy).1, List.mem_cons_of_mem _ (i1 y hy).2⟩
/-- sorted, of what the value stands for -/
def rSX (g : Gd) : List V → Hp → VK → Prop := fun vs H Q => ∃ Wv rho d ds s x, StR g.fa rho H s ∧ vs = [x] ∧ RV g.fa rho H x d ∧ items s d = some ds ∧ Po g Wv rho H (RV g.fa) (match srtD ds with
  | some es => mkL false es s
  | none => .fail) Q
theorem cr_sortedX : CallR X (.builtin "sorted") (rSX g) := by
  intro pins sh σ H vs us Q I r h
  obtain ⟨Wv, rho, d, ds, s, x, S, rfl, r1, hi, h⟩ := h
  obtain ⟨a, xs, rfl, hq, rs⟩ := items_at (K := X.K) S r1 hi
  rw [Vals.ref1 r]
  -- where it stands
  obtain ⟨its, T, o, n, rv, hT, ho, hc, hd, hz⟩ : ∃ (its : List Value) (T : String) (o : Obj) (n : Nat), Vals xs its ∧ (T = "list" ∨ T = "tuple") ∧ sh.heap.get? a = some o ∧ o.cls = .type T ∧ o.data = .seq its.toArray n ∧ xs.length ≤ sizeLine := by
    rcases hq with hq | hq
    · obtain ⟨its, rv, pl, hz⟩ := I.list hq
      obtain ⟨o, ho, hc, n, hd⟩ := pl.isList
      exact ⟨its, "list", o, n, rv, .inl rfl, ho, hc, hd, hz⟩
    · obtain ⟨its, rv, ⟨o, ho, hc, n, hd⟩, hz⟩ := I.tuple hq
      exact ⟨its, "tuple", o, n, rv, .inr rfl, ho, hc, hd, hz⟩
  have hzi : its.length ≤ sizeLine := by rw [← rv.length]; exact hz
  unfold srtD at h
  split at h
  · rename_i es he
    split at he
    · -- numbers
      rename_i l hl
      cases he
      have e := rs.getI hl
      subst e
      have hI := rv.ints
      refine sort_seq SrtO.swo_int hT ho hc hd hzi (fun h2 hp a' _ _ => SrtO.ints_sortable hI h2) fun out g1 hp p h1 h2 k0 kp big ⟨ep, hat⟩ => ?_
      obtain ⟨k1, k2, k3⟩ := SrtO.ints_out hI h1 h2
      have en := srtI_eq k2 k3
      have hlen : ((out.map SrtO.iv).map V.int).length ≤ sizeLine := by
        rw [List.length_map, k2.length_eq]
        rw [List.length_map] at hz
        exact hz
      have J := I.kept (t' := sh.toks) k0
      have np : H p = none := J.hok.fresh big
      refine ⟨.ref p, upd H p (.lst ((out.map SrtO.iv).map V.int)), J.laid (t' := sh.toks) (fun b u e => kp b u e) big ⟨hlen, out, ep, vals_of_ints k1, hat⟩, rfl, ?_⟩
      rw [en]
      exact mkL_ok h S (RVs.ofInts _) p np
    · split at he
      · -- tuples of numbers
        rename_i ls hl
        cases he
        obtain ⟨ne, rfl⟩ := getT_ok hl
        obtain ⟨each, eL⟩ := rvs_each rs
        have refs : ∀ x ∈ xs, ∃ t, x = V.ref t := fun x hx => let ⟨⟨t, e, _⟩, _⟩ := tupI_at (each x hx).1; ⟨t, e⟩
        obtain ⟨e1, e2⟩ := refs_back rv refs
        have isT : ∀ v ∈ its, TS.TupInts sh.heap v (kT H (backV v)) ∧ kT H (backV v) ≠ [] := by
          intro v hv
          obtain ⟨t, rfl⟩ := e2 v hv
          have hm : backV (Value.ref t) ∈ xs := by rw [e1]; exact List.mem_map.mpr ⟨_, hv, rfl⟩
          obtain ⟨rx, mx⟩ := each _ hm
          obtain ⟨⟨t', et, ht⟩, _⟩ := tupI_at rx
          have et : V.ref t = V.ref t' := et
          cases et
          refine ⟨?_, ne _ mx⟩
          obtain ⟨us, ru, ist, _⟩ := I.tuple (SqT.of ht)
          exact ⟨t, us.toArray, rfl, ist, by simpa using ru.ints⟩
        refine sort_seq (lt := fun v u => lexL (kT H (backV v)) (kT H (backV u))) (swo_lexL _) hT ho hc hd hzi (fun h2 hp a' ha kk => tup_sortable h2 (fun v m => ⟨(isT v m).1.keeps fun b o e _ => (kk b o e).2, (isT v m).2⟩) fun o e => ?_) fun out g1 hp p h1 h2 k0 kp big ⟨ep, hat⟩ => ?_
        · have e' : some o = some (seqObj "list" its.toArray 0) := e.symm.trans ha
          cases e'
          intro c
          exact absurd (Value.type.inj c) (by decide)
        · have h3 : ∀ u ∈ out, ∃ a, u = Value.ref a := fun u hu => e2 u (h2.perm.mem_iff.mp hu)
          have pm : (out.map backV).Perm xs := by rw [e1]; exact h2.perm.map backV
          have J := I.kept (t' := sh.toks) k0
          have np : H p = none := J.hok.fresh big
          have sorted : (out.map backV).map (kT H) = srtT ls := by
            refine srtT_eq ?_ ?_
            · have := pm.map (kT H)
              rw [eL] at this
              exact this
            · rw [List.pairwise_map, List.pairwise_map]
              exact h1
          refine ⟨.ref p, upd H p (.lst (out.map backV)), J.laid (t' := sh.toks) (fun b u e => kp b u e) big ⟨by rw [pm.length_eq]; exact hz, out, ep, vals_back h3, hat⟩, rfl, ?_⟩
          refine mkL_ok h S ?_ p np
          rw [← sorted]
          exact rvs_map fun x hx => (each x (pm.mem_iff.mp hx)).1
      · cases he
  · exact h.elim
end
end Bw

set_option Elab.async false
set_option linter.all false
set_option maxRecDepth 100000
set_option maxHeartbeats 4000000
/-! Bw: the greatest and the least, places in a list, sets of a tuple's numbers -/
namespace Bw
open PySem PySem.Spec PyProof.Rows L2
mutual
theorem ofP_toP : ∀ {d : D} {p : PyData}, toP d = some p → ofP p = some d
  | .non, _, h => by cases h; rfl
  | .bl _, _, h => by cases h; rfl
  | .int _, _, h => by cases h; rfl
  | .str _, _, h => by cases h; rfl
  | .tup xs, _, h => by
    simp only [toP] at h
    split at h
    · rename_i l e
      cases h
      simp only [ofP, ofPs_toPs e]
    · cases h
  | .lst xs, _, h => by
    simp only [toP] at h
    split at h
    · rename_i l e
      cases h
      simp only [ofP, ofPs_toPs e]
    · cases h
  | .ref _, _, h => by cases h
  | .scr _, _, h => by cases h
  | .fn _, _, h => by cases h
theorem ofPs_toPs : ∀ {ds : List D} {ps : List PyData}, toPs ds = some ps → ofPs ps = some ds
  | [], _, h => by cases h; rfl
  | x :: xs, _, h => by
    simp only [toPs] at h
    split at h
    · rename_i y e
      split at h
      · rename_i l e2
        cases h
        simp only [ofPs, ofP_toP e, ofPs_toPs e2]
      · cases h
    · cases h
end
theorem toPs_at : ∀ {ds : List D} {ps : List PyData} {i : Nat} {d : D}, toPs ds = some ps → ds[i]? = some d → ∃ p, ps[i]? = some p ∧ toP d = some p
  | [], _, i, d, h, h2 => by simp at h2
  | x :: xs, _, i, d, h, h2 => by
    simp only [toPs] at h
    split at h
    · rename_i y e
      split at h
      · rename_i l e2
        cases h
        cases i with
        | zero =>
          simp only [List.getElem?_cons_zero, Option.some.injEq] at h2
          subst h2
          exact ⟨y, rfl, e⟩
        | succ i => exact toPs_at (i := i) e2 (by simpa using h2)
      · cases h
    · cases h
theorem toPs_len : ∀ {ds : List D} {ps : List PyData}, toPs ds = some ps → ps.length = ds.length
  | [], _, h => by cases h; rfl
  | x :: xs, _, h => by
    simp only [toPs] at h
    split at h
    · rename_i y e
      split at h
      · rename_i l e2
        cases h
        simp [toPs_len e2]
      · cases h
    · cases h
theorem getI_P : ∀ {ds : List D} {l : List Int}, getI ds = some l → toPs ds = some (l.map PyData.int)
  | [], _, h => by cases h; rfl
  | .int i :: xs, _, h => by
    simp only [getI] at h
    split at h
    · rename_i l e
      cases h
      simp only [toPs, toP, getI_P e, List.map_cons]
    · cases h
  | .non :: _, _, h => by cases h
  | .bl _ :: _, _, h => by cases h
  | .str _ :: _, _, h => by cases h
  | .tup _ :: _, _, h => by cases h
  | .lst _ :: _, _, h => by cases h
  | .ref _ :: _, _, h => by cases h
  | .scr _ :: _, _, h => by cases h
  | .fn _ :: _, _, h => by cases h
theorem ints_alike (l : List Int) : PySem.W.AlikeAll (l.map PyData.int) := by
  refine ⟨fun x hx y hy => ?_, fun x hx => ?_⟩
  · obtain ⟨a, _, rfl⟩ := List.mem_map.mp hx
    obtain ⟨b, _, rfl⟩ := List.mem_map.mp hy
    simp [PySem.W.alike]
  · obtain ⟨a, _, rfl⟩ := List.mem_map.mp hx
    simp
theorem ints_depth : ∀ l : List Int, PyData.depthAll (l.map PyData.int) = 0
  | [] => rfl
  | i :: l => by simp [PyData.depthAll, PyData.depth, ints_depth l]
theorem ints_canLay : ∀ l : List Int, PyData.canLayAll0 (l.map PyData.int) = true
  | [] => rfl
  | i :: l => by
    have := ints_canLay l
    simp [PyData.canLayAll0, PyData.canLay0, this]
theorem maxL_fold : ∀ (l : List Int) (i : Int), maxL i l = l.foldl max i
  | [], i => rfl
  | x :: l, i => by
    rw [maxL, maxL_fold l, List.foldl_cons]
    congr 1
    split <;> omega
theorem minL_fold : ∀ (l : List Int) (i : Int), minL i l = l.foldl min i
  | [], i => rfl
  | x :: l, i => by
    rw [minL, minL_fold l, List.foldl_cons]
    congr 1
    split <;> omega
theorem allAlike_ok {l : List PyData} (h : allAlike l = true) : PySem.W.AlikeAll l := by
  unfold allAlike at h
  rw [List.all_eq_true] at h
  refine ⟨fun x hx y hy => ?_, fun x hx => ?_⟩
  · have := h x hx
    rw [Bool.and_eq_true, List.all_eq_true] at this
    exact this.2 y hy
  · have := h x hx
    rw [Bool.and_eq_true] at this
    intro e
    subst e
    exact absurd this.1 (by simp)
/-- what the look tells -/
theorem best_data {mx : Bool} {ds : List D} {d : D} (h : bestD mx ds = some d) : ∃ p ps, toPs ds = some (p :: ps) ∧ PySem.W.AlikeAll (p :: ps) ∧ PyData.canLayAll0 (p :: ps) = true ∧ PyData.depthAll (p :: ps) ≤ 50 ∧ ofP (if mx then PySem.W.maxD p ps else PySem.W.minD p ps) = some d := by
  unfold bestD at h
  split at h
  · rename_i i l e
    cases h
    refine ⟨.int i, l.map .int, getI_P e, ints_alike (i :: l), ints_canLay (i :: l), by rw [show (PyData.int i :: l.map PyData.int) = (i :: l).map PyData.int from rfl, ints_depth]; omega, ?_⟩
    cases mx with
    | true => simp only [if_true, PySem.W.maxD_ints, maxL_fold, ofP]
    | false => simp only [Bool.false_eq_true, if_false, PySem.W.minD_ints, minL_fold, ofP]
  · cases h
  · split at h
    · rename_i p ps e
      split at h
      · rename_i hc
        rw [Bool.and_eq_true, Bool.and_eq_true] at hc
        exact ⟨p, ps, e, allAlike_ok hc.1, SeqAt.canLay_of_shaped hc.2.1, of_decide_eq_true hc.2.2, h⟩
      · cases h
    · cases h
theorem vals_at : ∀ {xs : List V} {us : List Value} {i : Nat} {u : Value}, Vals xs us → us[i]? = some u → ∃ x, xs[i]? = some x ∧ RelV x u
  | _, _, i, u, .nil, h => by simp at h
  | _, _, 0, u, .cons r t, h => by
    simp only [List.getElem?_cons_zero, Option.some.injEq] at h
    subst h
    exact ⟨_, rfl, r⟩
  | _, _, i + 1, u, .cons r t, h => by
    obtain ⟨x, h1, h2⟩ := vals_at (i := i) t (by simpa using h)
    exact ⟨x, by simpa using h1, h2⟩
section
variable {g : Gd} {X : Cx} {rho : List Addr} {H : Hp} {pins : List (Addr × Obj)} {σ : L2.St} {s : Shared} {Q : VK}
/-- the item that is told -/
theorem best_item {xs : List V} {its : List Value} {ds : List D} {ps : List PyData} {as : List Addr} {m : PyData} {d : D} (rv : Vals xs its) (r : RVs g.fa rho H xs ds) (hp : toPs ds = some ps) (hr : ReadsAll s.heap its.toArray.toList ps as) (cl : PyData.canLayAll0 ps = true) (hd : ofP m = some d)
    {i : Nat} {v : Value} {h' : Heap} {bs : List Addr} (hv : its.toArray[i]? = some v) (rm : Reads h' v m bs) (k : ∀ b o, s.heap.get? b = some o → h'.get? b = some o) : ∃ x, RelV x v ∧ RV g.fa rho H x d := by
  have hv' : its[i]? = some v := by simpa using hv
  obtain ⟨x, hx, rx⟩ := vals_at rv hv'
  have hi : i < ds.length := by rw [← r.length]; exact (List.getElem?_eq_some_iff.mp hx).1
  obtain ⟨y, hy, ry⟩ := r.at (List.getElem?_eq_getElem hi)
  rw [hx] at hy
  cases hy
  obtain ⟨p, h1, h2⟩ := toPs_at hp (List.getElem?_eq_getElem hi)
  obtain ⟨bs1, r1, h3, h4, h5⟩ := PySem.W.readsAll_atA hr i v hv
  have e1 : ps.getD i .none = p := by rw [List.getD_eq_getElem?_getD, h1]; rfl
  rw [e1] at r1 h4
  have cp : p.canLay0 = true := by
    clear hp hr h1 e1 h3 h5
    induction ps with
    | nil => cases h4
    | cons q qs ih =>
      simp only [PyData.canLayAll0, Bool.and_eq_true] at cl
      rcases List.mem_cons.mp h4 with rfl | h4
      · exact cl.1
      · exact ih cl.2 h4
  have e2 : m = p := (SeqAt.Reads.unique p _ _ _ _ cp (PySem.W.reads_keeps k r1) rm).symm
  rw [e2, ofP_toP h2] at hd
  cases hd
  exact ⟨x, rx, ry⟩
theorem best_call {mx : Bool} (hc : X.calm = true) (hu : X.A.units + 65 < cLine) {a : Addr} {xs : List V} {ds : List D} {d : D} (I : Inv X pins σ H s) (hq : SqL X.K H a xs ∨ SqT X.K H a xs) (r : RVs g.fa rho H xs ds) (b : bestD mx ds = some d) (q : ∀ x, RV g.fa rho H x d → Q x H) :
    wpAny (model X.prog X.w) X.A (call (.builtin (if mx then "max" else "min")) [.ref a]) (EP X pins σ Q) X.xe s := by
  obtain ⟨p, ps, h1, h2, h3, h4, h5⟩ := best_data b
  have hu' : X.A.units + 1 + PyData.depthAll (p :: ps) < cLine := by omega
  have on : ∀ {m : PyData} {its : List Value} {as : List Addr}, ofP m = some d → Vals xs its → ReadsAll s.heap its.toArray.toList (p :: ps) as → ∀ (i : Nat) v h' tk bs, its.toArray[i]? = some v → Reads h' v m bs → (∀ b o, s.heap.get? b = some o → h'.get? b = some o) → EP X pins σ Q v { s with heap := h', toks := tk } := by
    intro m its as hm rv hr i v h' tk bs hv rm k
    obtain ⟨x, rx, ry⟩ := best_item rv r h1 hr h3 hm hv rm k
    exact ⟨x, H, I.kept k, rx, q x ry⟩
  rcases hq with hq | hq
  · obtain ⟨its, rv, pl, _⟩ := I.list hq
    obtain ⟨as, hr⟩ := Dp.readsAll I _ _ its (r.dp (K := X.K) h1) rv
    have hr' : ReadsAll s.heap its.toArray.toList (p :: ps) as := by simpa using hr
    cases mx with
    | true => exact PySem.W.max_list_data (I.ok.hd hc) pl.isList hr' h2 hu' (on (by simpa using h5) rv hr')
    | false => exact PySem.W.min_list_data (I.ok.hd hc) pl.isList hr' h2 hu' (on (by simpa using h5) rv hr')
  · obtain ⟨its, rv, pl, _⟩ := I.tuple hq
    obtain ⟨as, hr⟩ := Dp.readsAll I _ _ its (r.dp (K := X.K) h1) rv
    have hr' : ReadsAll s.heap its.toArray.toList (p :: ps) as := by simpa using hr
    cases mx with
    | true => exact PySem.W.max_tuple_data (I.ok.hd hc) pl hr' h2 hu' (on (by simpa using h5) rv hr')
    | false => exact PySem.W.min_tuple_data (I.ok.hd hc) pl hr' h2 hu' (on (by simpa using h5) rv hr')
/-- min(x, default=y) -/
def rMind (g : Gd) : List V → List V → Hp → VK → Prop := fun vs zs H Q => ∃ Wv rho d e s x y, StR g.fa rho H s ∧ RV g.fa rho H x d ∧ RV g.fa rho H y e ∧ vs = [x] ∧ zs = [y] ∧ Po g Wv rho H (RV g.fa) (mindD d e s) Q
theorem cr_mind (hc : X.calm = true) (hu : X.A.units + 65 < cLine) : CallRK X (.builtin "min") [Str.ofString "default"] (rMind g) := by
  intro pins s σ H vs zs us ws Q I r rz h
  obtain ⟨Wv, rho, d, e, st, x, y, S, rx, ry, rfl, rfl, h⟩ := h
  obtain ⟨w1, rfl, e1⟩ := Vals.one rz
  unfold mindD at h
  split at h
  · -- nothing
    rename_i ei
    obtain ⟨a, xs, rfl, hq, rr⟩ := items_at (K := X.K) S rx ei
    rw [Vals.ref1 r]
    cases rr
    rcases hq with hq | hq
    · obtain ⟨its, rv, pl, _⟩ := I.list hq
      cases rv
      exact PySem.W.min_list_default (xs := []) (as := []) (I.ok.hd hc) pl.isList (by simpa using ReadsAll.nil) ⟨fun _ h => (nomatch h), fun _ h => (nomatch h)⟩ (by simp only [PyData.depthAll]; omega) (fun _ h' tk k => ⟨y, H, I.kept k, e1, h.val S ry⟩) (fun y ys i v h' tk bs e => nomatch e)
    · obtain ⟨its, rv, pl, _⟩ := I.tuple hq
      cases rv
      exact PySem.W.min_tuple_default (xs := []) (as := []) (I.ok.hd hc) pl (by simpa using ReadsAll.nil) ⟨fun _ h => (nomatch h), fun _ h => (nomatch h)⟩ (by simp only [PyData.depthAll]; omega) (fun _ h' tk k => ⟨y, H, I.kept k, e1, h.val S ry⟩) (fun y ys i v h' tk bs e => nomatch e)
  · rename_i x0 xs0 ei
    obtain ⟨a, xs, rfl, hq, rr⟩ := items_at (K := X.K) S rx ei
    rw [Vals.ref1 r]
    split at h
    · rename_i dd b
      obtain ⟨p, ps, h1, h2, h3, h4, h5⟩ := best_data b
      have hu' : X.A.units + 1 + PyData.depthAll (p :: ps) < cLine := by omega
      have on : ∀ {its : List Value} {as : List Addr}, Vals xs its → ReadsAll s.heap its.toArray.toList (p :: ps) as → ∀ (y : PyData) (ys : List PyData) (i : Nat) v h' tk bs, p :: ps = y :: ys → its.toArray[i]? = some v → Reads h' v (PySem.W.minD y ys) bs → (∀ b o, s.heap.get? b = some o → h'.get? b = some o) → EP X pins σ Q v { s with heap := h', toks := tk } := by
        intro its as rv hr y ys i v h' tk bs ey hv rm k
        cases ey
        obtain ⟨x, rx, ry⟩ := best_item rv rr h1 hr h3 (show ofP (PySem.W.minD p ps) = some dd by simpa using h5) hv rm k
        exact ⟨x, H, I.kept k, rx, h.val S ry⟩
      rcases hq with hq | hq
      · obtain ⟨its, rv, pl, _⟩ := I.list hq
        obtain ⟨as, hr⟩ := Dp.readsAll I _ _ its (rr.dp (K := X.K) h1) rv
        have hr' : ReadsAll s.heap its.toArray.toList (p :: ps) as := by simpa using hr
        exact PySem.W.min_list_default (I.ok.hd hc) pl.isList hr' h2 hu' (fun e => nomatch e) (on rv hr')
      · obtain ⟨its, rv, pl, _⟩ := I.tuple hq
        obtain ⟨as, hr⟩ := Dp.readsAll I _ _ its (rr.dp (K := X.K) h1) rv
        have hr' : ReadsAll s.heap its.toArray.toList (p :: ps) as := by simpa using hr
        exact PySem.W.min_tuple_default (I.ok.hd hc) pl hr' h2 hu' (fun e => nomatch e) (on rv hr')
    · exact h.elim
  · exact h.elim
end
end Bw

set_option Elab.async false
set_option linter.all false
set_option maxRecDepth 100000
set_option maxHeartbeats 4000000
/-! Bw: built-in functions, isinstance -/
namespace Bw
open PySem PySem.Spec PyProof.Rows L2
section
variable {g : Gd} {X : Cx} {rho : List Addr} {H : Hp} {s : Sto} {Q : VK}
def rBi (g : Gd) (f : Bi) : List V → Hp → VK → Prop := fun vs H Q => ∃ Wv rho ds s, StR g.fa rho H s ∧ RVs g.fa rho H vs ds ∧ Po g Wv rho H (RV g.fa) (biD f ds s) Q
theorem bi_len : CallR X (.builtin "len") (rBi g .len) := by
  intro pins s σ H xs us Q I r h
  obtain ⟨Wv, rho, ds, st, S, rs, h⟩ := h
  cases rs with
  | nil => exact h.elim
  | cons r1 rs =>
    cases rs with
    | cons _ _ => cases r1 <;> exact h.elim
    | nil =>
      have go : ∀ {v : V} {d : D}, RV g.fa rho H v d → Vals [v] us → Po g Wv rho H (RV g.fa) (match items st d with
          | some xs => R.ok (.int xs.length) st
          | none => .fail) Q → wpAny (model X.prog X.w) X.A (call (.builtin "len") us) (EP X pins σ Q) X.xe s := by
        intro v d r1 r h
        split at h
        · rename_i ys e
          obtain ⟨a, xs, rfl, hq, rr⟩ := items_at (K := X.K) S r1 e
          refine call_len_seq pins s σ H _ us Q I r ⟨a, xs, rfl, hq, ?_⟩
          rw [rr.length]
          exact h.val S (.int _)
        · exact h.elim
      cases r1 with
      | str x =>
        simp only [biD] at h
        split at h
        · rename_i hl
          exact call_len_str pins s σ H _ us Q I r ⟨x, rfl, by rw [← lim_eq]; exact hl, h.val S (.int _)⟩
        · exact h.elim
      | @scr a o ns h1 n1 =>
        refine call_len_seq pins s σ H _ us Q I r ⟨a, ns.map V.int, rfl, .inl (.inl (.inr ⟨o, h1⟩)), ?_⟩
        rw [List.length_map]
        exact h.val S (.int _)
      | non => exact go .non r h
      | bl b => exact go (.bl b) r h
      | int b => exact go (.int b) r h
      | ref b => exact go (.ref b) r h
      | tup a b c => exact go (.tup a b c) r h
      | lst a b c => exact go (.lst a b c) r h
      | fn a => exact go (.fn a) r h
theorem bi_int : CallR X (.type "int") (rBi g .int) := by
  intro pins s σ H xs us Q I r h
  obtain ⟨Wv, rho, ds, st, S, rs, h⟩ := h
  cases rs with
  | nil => exact h.elim
  | cons r1 rs =>
    cases rs with
    | cons _ _ => cases r1 <;> exact h.elim
    | nil =>
      cases r1 <;> first | exact h.elim | skip
      · exact call_int1 pins s σ H _ us Q I r (.inr ⟨_, rfl, h.val S (.int _)⟩)
      · exact call_int1 pins s σ H _ us Q I r (.inl ⟨_, rfl, h.val S (.int _)⟩)
theorem bi_abs : CallR X (.builtin "abs") (rBi g .abs) := by
  intro pins s σ H xs us Q I r h
  obtain ⟨Wv, rho, ds, st, S, rs, h⟩ := h
  cases rs with
  | nil => exact h.elim
  | cons r1 rs =>
    cases rs with
    | cons _ _ => cases r1 <;> exact h.elim
    | nil =>
      cases r1 <;> first | exact h.elim | skip
      exact call_abs pins s σ H _ us Q I r ⟨_, rfl, h.val S (.int _)⟩
theorem bi_two {f : Bi} {ds : List D} {st : Sto} {Wv} (hf : ∀ x y z zs, biD f (x :: y :: z :: zs) st = .fail) (h : Po g Wv rho H (RV g.fa) (biD f ds st) Q) (h0 : biD f [] st = .fail) (h1 : ∀ x, biD f [x] st = .fail) : ∃ x y, ds = [x, y] := by
  match ds, h with
  | [], h => rw [h0] at h; exact h.elim
  | [x], h => rw [h1] at h; exact h.elim
  | [x, y], _ => exact ⟨x, y, rfl⟩
  | x :: y :: z :: zs, h => rw [hf] at h; exact h.elim
theorem bi_max (hc : X.calm = true) (hu : X.A.units + 65 < cLine) : CallR X (.builtin "max") (rBi g .max) := by
  intro pins s σ H xs us Q I r h
  obtain ⟨Wv, rho, ds, st, S, rs, h⟩ := h
  cases rs with
  | nil => exact h.elim
  | cons r1 rs =>
    cases rs with
    | nil =>
      simp only [biD] at h
      split at h
      · rename_i ys e
        split at h
        · rename_i v b
          obtain ⟨a, zs, rfl, hq, rr⟩ := items_at (K := X.K) S r1 e
          rw [Vals.ref1 r]
          exact best_call (mx := true) hc hu I hq rr b fun x rx => h.val S rx
        · exact h.elim
      · exact h.elim
    | cons r2 rs =>
      cases rs with
      | nil =>
        cases r1 <;> cases r2 <;> first | exact h.elim | skip
        exact call_max2 hc pins s σ H _ us Q I r ⟨_, _, rfl, h.val S (.int _)⟩
      | cons r3 rs => cases r1 <;> cases r2 <;> exact h.elim
theorem bi_min (hc : X.calm = true) (hu : X.A.units + 65 < cLine) : CallR X (.builtin "min") (rBi g .min) := by
  intro pins s σ H xs us Q I r h
  obtain ⟨Wv, rho, ds, st, S, rs, h⟩ := h
  cases rs with
  | nil => exact h.elim
  | cons r1 rs =>
    cases rs with
    | nil =>
      simp only [biD] at h
      split at h
      · rename_i ys e
        split at h
        · rename_i v b
          obtain ⟨a, zs, rfl, hq, rr⟩ := items_at (K := X.K) S r1 e
          rw [Vals.ref1 r]
          exact best_call (mx := false) hc hu I hq rr b fun x rx => h.val S rx
        · exact h.elim
      · exact h.elim
    | cons r2 rs =>
      cases rs with
      | nil =>
        cases r1 <;> cases r2 <;> first | exact h.elim | skip
        exact call_min2 hc pins s σ H _ us Q I r ⟨_, _, rfl, h.val S (.int _)⟩
      | cons r3 rs => cases r1 <;> cases r2 <;> exact h.elim
theorem bi_gcd : CallR X (.builtin "math.gcd") (rBi g .gcd) := by
  intro pins s σ H xs us Q I r h
  obtain ⟨Wv, rho, ds, st, S, rs, h⟩ := h
  obtain ⟨x, y, rfl⟩ := bi_two (fun x y z zs => by cases x <;> cases y <;> rfl) h rfl (fun x => by cases x <;> rfl)
  cases rs with
  | cons r1 rs =>
    cases rs with
    | cons r2 rs =>
      cases rs
      cases r1 <;> first | exact h.elim | skip
      cases r2 <;> first | exact h.elim | skip
      exact cr_gcd pins s σ H _ us Q I r ⟨_, _, rfl, h.val S (.int _)⟩
theorem lcm_lt {a b : Nat} (ha : a < 2 ^ 64) (hb : b < 2 ^ 64) : (Nat.lcm 1 a).lcm b < 2 ^ 128 := by
  have h1 : (Nat.lcm 1 a).lcm b ≤ (Nat.lcm 1 a) * b := Nat.div_le_self _ _
  rw [show Nat.lcm 1 a = a from by simp] at h1 ⊢
  have h2 : a * b ≤ (2 ^ 64 - 1) * (2 ^ 64 - 1) := Nat.mul_le_mul (by omega) (by omega)
  omega
theorem bi_lcm : CallR X (.builtin "math.lcm") (rBi g .lcm) := by
  intro pins s σ H xs us Q I r h
  obtain ⟨Wv, rho, ds, st, S, rs, h⟩ := h
  obtain ⟨x, y, rfl⟩ := bi_two (fun x y z zs => by cases x <;> cases y <;> rfl) h rfl (fun x => by cases x <;> rfl)
  cases rs with
  | cons r1 rs =>
    cases rs with
    | cons r2 rs =>
      cases rs
      cases r1 <;> first | exact h.elim | skip
      cases r2 <;> first | exact h.elim | skip
      rename_i i j
      simp only [biD] at h
      split at h
      · rename_i hb
        obtain ⟨h1, h2⟩ := of_decide_eq_true hb
        obtain ⟨t, u, rfl⟩ := Vals.int2 r
        have hl := lcm_lt h1 h2
        refine PySem.W.mg_lcm h1 h2 ?_ ⟨.int _, H, I.tok _, ⟨_, rfl⟩, h.val S (.int _)⟩
        show ((Nat.lcm 1 i.natAbs).lcm j.natAbs).log2 < bitsLine
        by_cases h0 : (Nat.lcm 1 i.natAbs).lcm j.natAbs = 0
        · rw [h0]; decide +kernel
        · exact Nat.lt_of_lt_of_le ((Nat.log2_lt h0).mpr hl) (by decide +kernel)
      · exact h.elim
theorem entry_comb : entryFor table "math.comb" = some Builtin.«math.comb» := entryFor_of_tree (by kernel_rfl)
theorem kind_comb : builtinKind "math.comb" = none := by kernel_rfl
theorem plain_comb : plainId "math.comb" = true := by decide +kernel
theorem args_comb (a b : Value) : argsOk "math.comb" ⟨[a, b], []⟩ := by unfold argsOk; kernel_rfl
theorem run_comb (a : Int) (t : Tok) (b : Int) (u : Tok) (h0 : ¬ a < 0) (h1 : ¬ b < 0) (h2 : ¬ b > a) (h3 : ¬ min b (a - b) > Builtin.Math.maxSsize) (h4 : ¬ min b (a - b) > Builtin.Math.manyFactors) (h5 : ¬ min b (a - b) > 9000)
    (hsz : (Builtin.Math.fallingProduct a (min b (a - b)).toNat / Builtin.Math.fallingProduct (min b (a - b)) (min b (a - b)).toNat).natAbs.log2 < bitsLine) :
    Gives (Builtin.«math.comb» ⟨[.int a t, .int b u], []⟩) (.int (Builtin.Math.fallingProduct a (min b (a - b)).toNat / Builtin.Math.fallingProduct (min b (a - b)) (min b (a - b)).toNat)) :=
  .of_wp fun M A E s Q h => by obtain ⟨hp, g, d, tk, os⟩ := s; wp_walk; (try (refine wpAny_ite_false (decide_eq_false (Nat.not_le.mpr hsz)) ?_; wp_walk)); exact ⟨_, rfl, h⟩
theorem bi_comb : CallR X (.builtin "math.comb") (rBi g .comb) := by
  intro pins s σ H xs us Q I r h
  obtain ⟨Wv, rho, ds, st, S, rs, h⟩ := h
  obtain ⟨x, y, rfl⟩ := bi_two (fun x y z zs => by cases x <;> cases y <;> rfl) h rfl (fun x => by cases x <;> rfl)
  cases rs with
  | cons r1 rs =>
    cases rs with
    | cons r2 rs =>
      cases rs
      cases r1 <;> first | exact h.elim | skip
      cases r2 <;> first | exact h.elim | skip
      rename_i i j
      simp only [biD] at h
      split at h
      · rename_i hb
        obtain ⟨h1, h2, h3, h4⟩ := of_decide_eq_true hb
        obtain ⟨t, u, rfl⟩ := Vals.int2 r
        have hm : min j (i - j) ≤ 4096 := by omega
        have m1 : (4096 : Int) ≤ Builtin.Math.maxSsize := by decide +kernel
        have m2 : (4096 : Int) ≤ Builtin.Math.manyFactors := by decide +kernel
        exact call_function_meets kind_comb plain_comb entry_comb (args_comb _ _) (run_comb i t j u (by omega) (by omega) (by omega) (by omega) (by omega) (by omega) (Nat.lt_of_lt_of_le h4 (by decide +kernel))).meets ⟨.int _, H, I.tok _, ⟨_, rfl⟩, h.val S (.int _)⟩
      · exact h.elim
theorem bi_one {f : Bi} {ds : List D} {st : Sto} {Wv} (hf : ∀ x y zs, biD f (x :: y :: zs) st = .fail) (h : Po g Wv rho H (RV g.fa) (biD f ds st) Q) (h0 : biD f [] st = .fail) : ∃ x, ds = [x] := by
  match ds, h with
  | [], h => rw [h0] at h; exact h.elim
  | [x], h => exact ⟨x, rfl⟩
  | x :: y :: zs, h => rw [hf] at h; exact h.elim
theorem items_at2 (S : StR g.fa rho H s) {v : V} {d : D} {ds : List D} (r : RV g.fa rho H v d) (h : items s d = Option.some ds) : ∃ a xs, v = .ref a ∧ (H a = some (.lst xs) ∨ (H a = some (.tup xs) ∧ d = .tup ds)) ∧ RVs g.fa rho H xs ds := by
  cases r <;> first | (simp [items] at h; done) | skip
  · rename_i i a hi
    simp only [items] at h
    split at h
    · rename_i lk xs e
      cases h
      obtain ⟨xs, h1, h2⟩ := S.some hi e
      exact ⟨a, xs, rfl, .inl h1, h2⟩
    · cases h
  · rename_i a xs es h1 n r
    simp only [items, Option.some.injEq] at h
    subst h
    exact ⟨a, xs, rfl, .inr ⟨h1, rfl⟩, r⟩
  · rename_i a xs es h1 n r
    simp only [items, Option.some.injEq] at h
    subst h
    exact ⟨a, xs, rfl, .inl h1, r⟩
theorem bi_tuple : CallR X (.type "tuple") (rBi g .tuple) := by
  intro pins s σ H xs us Q I r h
  obtain ⟨Wv, rho, ds, st, S, rs, h⟩ := h
  obtain ⟨d, rfl⟩ := bi_one (fun x y zs => by cases x <;> rfl) h rfl
  cases rs with
  | cons r1 rs =>
    cases rs
    have h : Po g Wv rho H (RV g.fa) (match items st d with
      | some xs => R.ok (.tup xs) st
      | none => .fail) Q := by cases d <;> exact h
    split at h
    · rename_i ys e
      obtain ⟨a, xs, rfl, hq, rr⟩ := items_at2 S r1 e
      refine call_tuple_of pins s σ H _ us Q I r ⟨a, xs, rfl, ?_⟩
      rcases hq with hq | ⟨hq, hd⟩
      · exact .inl ⟨SqL.of hq, mk_tup h S rr⟩
      · subst hd
        exact .inr ⟨SqT.of hq, h.val S r1⟩
    · exact h.elim
theorem bi_listM (m : Bool) : CallR X (.type "list") (rBi g (if m then .listR else .list)) := by
  intro pins s σ H xs us Q I r h
  obtain ⟨Wv, rho, ds, st, S, rs, h⟩ := h
  obtain ⟨d, rfl⟩ := bi_one (fun x y zs => by cases m <;> cases x <;> rfl) h (by cases m <;> rfl)
  cases rs with
  | cons r1 rs =>
    cases rs
    have go : (Po g Wv rho H (RV g.fa) (match items st d with
      | some xs => mkL m xs st
      | none => .fail) Q) → wpAny (model X.prog X.w) X.A (call (.type "list") us) (EP X pins σ Q) X.xe s := by
      intro h
      split at h
      · rename_i ys e
        obtain ⟨a, xs, rfl, hq, rr⟩ := items_at (K := X.K) S r1 e
        exact call_list_of pins s σ H _ us Q I r ⟨a, xs, rfl, hq, mkL_ok h S rr⟩
      · exact h.elim
    cases d with
    | scr ns =>
      cases m with
      | false => exact h.elim
      | true =>
        cases r1 with
        | @scr a o _ h1 n1 => exact call_list_of pins s σ H _ us Q I r ⟨a, ns.map V.int, rfl, .inl (.inl (.inr ⟨o, h1⟩)), mkL_ok h S (RVs.ofInts ns)⟩
    | _ => cases m <;> exact go h
theorem bi_sum (hc : X.calm = true) : CallR X (.builtin "sum") (rBi g .sum) := by
  intro pins s σ H xs us Q I r h
  obtain ⟨Wv, rho, ds, st, S, rs, h⟩ := h
  obtain ⟨d, rfl⟩ := bi_one (fun x y zs => by cases x <;> rfl) h rfl
  cases rs with
  | cons r1 rs =>
    cases rs
    simp only [biD] at h
    split at h
    · rename_i ys e
      split at h
      · rename_i l el
        obtain ⟨a, zs, rfl, hq, rr⟩ := items_at (K := X.K) S r1 e
        have ez := rr.getI el
        subst ez
        rcases hq with hq | hq
        · exact cr_sum hc pins s σ H _ us Q I r ⟨a, l, rfl, hq, h.val S (.int _)⟩
        · rw [Vals.ref1 r]
          obtain ⟨its, rv, ist, _⟩ := I.tuple hq
          obtain ⟨xs, hx⟩ := rv.ints.allInts.items
          have hn : numsOf its.toArray.toList = l := by rw [show its.toArray.toList = its by simp, rv.ints.numsOf]
          rw [hx] at ist hn
          rw [nums_intItems] at hn
          refine PySem.W.ktm_sumG (I.ok.hd hc) ist fun h' tk t' k => ?_
          have e2 : preSum (numAt xs) xs.size = l.sum := by rw [preSum_eq, List.take_of_length_le (by simp), hn]
          rw [e2]
          exact ⟨.int _, H, I.kept k, ⟨_, rfl⟩, h.val S (.int _)⟩
      · exact h.elim
    · exact h.elim
theorem bi_all (hc : X.calm = true) : CallR X (.builtin "all") (rBi g .all) := by
  intro pins s σ H xs us Q I r h
  obtain ⟨Wv, rho, ds, st, S, rs, h⟩ := h
  obtain ⟨d, rfl⟩ := bi_one (fun x y zs => by cases x <;> rfl) h rfl
  cases rs with
  | cons r1 rs =>
    cases rs
    cases r1 <;> first | exact h.elim | skip
    rename_i a xs ds h1 n1 r2
    simp only [biD] at h
    split at h
    · rename_i l e
      have := r2.getB e
      subst this
      exact cr_all hc pins s σ H _ us Q I r ⟨a, l, rfl, SqL.of h1, h.val S (.bl _)⟩
    · exact h.elim
theorem bi_any (hc : X.calm = true) : CallR X (.builtin "any") (rBi g .any) := by
  intro pins s σ H xs us Q I r h
  obtain ⟨Wv, rho, ds, st, S, rs, h⟩ := h
  obtain ⟨d, rfl⟩ := bi_one (fun x y zs => by cases x <;> rfl) h rfl
  cases rs with
  | cons r1 rs =>
    cases rs
    cases r1 <;> first | exact h.elim | skip
    rename_i a xs ds h1 n1 r2
    simp only [biD] at h
    split at h
    · rename_i l e
      have := r2.getB e
      subst this
      exact cr_any hc pins s σ H _ us Q I r ⟨a, l, rfl, SqL.of h1, h.val S (.bl _)⟩
    · exact h.elim
theorem bi_sorted : CallR X (.builtin "sorted") (rBi g .sorted) := by
  intro pins s σ H xs us Q I r h
  obtain ⟨Wv, rho, ds, st, S, rs, h⟩ := h
  obtain ⟨d, rfl⟩ := bi_one (fun x y zs => by cases x <;> rfl) h rfl
  cases rs with
  | cons r1 rs =>
    cases rs
    have h : Po g Wv rho H (RV g.fa) (match items st d with
      | some xs => (match srtD xs with
        | some es => mkL false es st
        | none => .fail)
      | none => .fail) Q := by cases d <;> exact h
    split at h
    · rename_i ys e
      exact cr_sortedX (g := g) pins s σ H _ us Q I r ⟨Wv, rho, d, ys, st, _, S, rfl, r1, e, h⟩
    · exact h.elim
/-- a built-in's call -/
theorem pe_bi {x : Str} {m : Bool} {f : Bi} {e : Expr} {es : List Expr} {p pos : Pos} {t : TA} (hb : biOf x m = some f) (hc : X.calm = true) (hu : X.A.units + 65 < cLine) (hg : Gl X x) (hm : X.mg x = (mathN x).map Value.builtin) (ha : PA X (e :: es) t)
    (he : starEach (e :: es) X.env = (false, eval e X.env) :: starEach es X.env) (hpl : (backTo pos (starEach es X.env)).any (·.1) = false) : PE X (.Call (.Name x p) (e :: es) [] pos) (tCB (rBi g f) t) := by
  have hl : x = "list" → f = (if m then .listR else .list) := fun e => by
    subst e
    have : biOf "list" m = some (if m then .listR else .list) := by cases m <;> decide +kernel
    rw [this] at hb
    exact (Option.some.inj hb).symm
  by_cases hx : x = "list"
  · rw [hl hx]
    subst hx
    exact pe_callTy (bi_listM m) hg (hm.trans rfl) (by decide +kernel) ha (by decide) (by decide) he hpl
  unfold biOf at hb
  rw [if_neg hx] at hb
  by_cases hx : x = "len"
  · subst hx
    rw [if_pos rfl] at hb
    cases hb
    exact pe_callB bi_len hg (hm.trans rfl) (by decide +kernel) ha (by decide) (by decide) he hpl
  rw [if_neg hx] at hb
  clear hx
  by_cases hx : x = "int"
  · subst hx
    rw [if_pos rfl] at hb
    cases hb
    exact pe_callTy bi_int hg (hm.trans rfl) (by decide +kernel) ha (by decide) (by decide) he hpl
  rw [if_neg hx] at hb
  clear hx
  by_cases hx : x = "abs"
  · subst hx
    rw [if_pos rfl] at hb
    cases hb
    exact pe_callB bi_abs hg (hm.trans rfl) (by decide +kernel) ha (by decide) (by decide) he hpl
  rw [if_neg hx] at hb
  clear hx
  by_cases hx : x = "tuple"
  · subst hx
    rw [if_pos rfl] at hb
    cases hb
    exact pe_callTy bi_tuple hg (hm.trans rfl) (by decide +kernel) ha (by decide) (by decide) he hpl
  rw [if_neg hx] at hb
  clear hx
  by_cases hx : x = "sum"
  · subst hx
    rw [if_pos rfl] at hb
    cases hb
    exact pe_callB (bi_sum hc) hg (hm.trans rfl) (by decide +kernel) ha (by decide) (by decide) he hpl
  rw [if_neg hx] at hb
  clear hx
  by_cases hx : x = "all"
  · subst hx
    rw [if_pos rfl] at hb
    cases hb
    exact pe_callB (bi_all hc) hg (hm.trans rfl) (by decide +kernel) ha (by decide) (by decide) he hpl
  rw [if_neg hx] at hb
  clear hx
  by_cases hx : x = "any"
  · subst hx
    rw [if_pos rfl] at hb
    cases hb
    exact pe_callB (bi_any hc) hg (hm.trans rfl) (by decide +kernel) ha (by decide) (by decide) he hpl
  rw [if_neg hx] at hb
  clear hx
  by_cases hx : x = "max"
  · subst hx
    rw [if_pos rfl] at hb
    cases hb
    exact pe_callB (bi_max hc hu) hg (hm.trans rfl) (by decide +kernel) ha (by decide) (by decide) he hpl
  rw [if_neg hx] at hb
  clear hx
  by_cases hx : x = "min"
  · subst hx
    rw [if_pos rfl] at hb
    cases hb
    exact pe_callB (bi_min hc hu) hg (hm.trans rfl) (by decide +kernel) ha (by decide) (by decide) he hpl
  rw [if_neg hx] at hb
  clear hx
  by_cases hx : x = "gcd"
  · subst hx
    rw [if_pos rfl] at hb
    cases hb
    exact pe_callBfun bi_gcd hg (hm.trans rfl) ha (by decide) he hpl
  rw [if_neg hx] at hb
  clear hx
  by_cases hx : x = "lcm"
  · subst hx
    rw [if_pos rfl] at hb
    cases hb
    exact pe_callBfun bi_lcm hg (hm.trans rfl) ha (by decide) he hpl
  rw [if_neg hx] at hb
  clear hx
  by_cases hx : x = "comb"
  · subst hx
    rw [if_pos rfl] at hb
    cases hb
    exact pe_callBfun bi_comb hg (hm.trans rfl) ha (by decide) he hpl
  rw [if_neg hx] at hb
  clear hx
  by_cases hx : x = "sorted"
  · subst hx
    rw [if_pos rfl] at hb
    cases hb
    exact pe_callB bi_sorted hg (hm.trans rfl) (by decide +kernel) ha (by decide) (by decide) he hpl
  rw [if_neg hx] at hb
  clear hx
  cases hb
end
end Bw

set_option Elab.async false
set_option linter.all false
set_option maxRecDepth 100000
set_option maxHeartbeats 4000000
/-! Bw: isinstance, targets, what loops go over -/
namespace Bw
open PySem PySem.Spec PyProof.Rows L2
def Ty.nm : Ty → String
  | .int => "int"
  | .bool => "bool"
  | .str => "str"
  | .list => "list"
  | .tuple => "tuple"
theorem kit_tab : ∀ t u : Ty, kitB t.nm u.nm = some (t.is u)
  | .int, .int | .int, .bool | .int, .str | .int, .list | .int, .tuple => by decide +kernel
  | .bool, .int | .bool, .bool | .bool, .str | .bool, .list | .bool, .tuple => by decide +kernel
  | .str, .int | .str, .bool | .str, .str | .str, .list | .str, .tuple => by decide +kernel
  | .list, .int | .list, .bool | .list, .str | .list, .list | .list, .tuple => by decide +kernel
  | .tuple, .int | .tuple, .bool | .tuple, .str | .tuple, .list | .tuple, .tuple => by decide +kernel
theorem kit_non : ∀ u : Ty, kitB "NoneType" u.nm = some false
  | .int | .bool | .str | .list | .tuple => by decide +kernel
section
variable {g : Gd} {c : Cfg} {N : List Str} {cf : CF} {j : Nat} {X : Cx} {sc : Scope} {W : WX} {rho rho' : List Addr} {H H' : Hp} {s : Sto} {σ : L2.St} {Q : VK}
theorem kit_D {K : PySem.W.Frag} {x : V} {d : D} {ts : List Ty} {b : Bool} (S : StR g.fa rho H s) (r : RV g.fa rho H x d) (h : isAny d ts = some b)
    (hr : ∀ i, d = .ref i → ∃ lk xs, s[i]? = some (SO.lst lk xs)) :
    ∃ t, TyX K H x t ∧ PySem.W.kitAny K t (ts.map fun u => .type u.nm) = some b ∧ ∀ u, ts = [u] → PySem.W.kitOne K t (.type u.nm) = some b := by
  have all : ∀ (q : Ty) (ts : List Ty), PySem.W.kitAny K (.type q.nm) (ts.map fun u => .type u.nm) = some (ts.any fun u => q.is u) := by
    intro q ts
    induction ts with
    | nil => exact kitAny_nil
    | cons u us ih =>
      refine kitAny_cons (b := q.is u) (kit_ty (kit_tab q u)) (fun e => ?_) (fun e => ?_)
      · rw [ih, List.any_cons, e, Bool.false_or]
      · rw [List.any_cons, e, Bool.true_or]
  have go : ∀ {q : Ty}, TyX K H x (.type q.nm) → some (ts.any fun u => q.is u) = some b → ∃ t, TyX K H x t ∧ PySem.W.kitAny K t (ts.map fun u => .type u.nm) = some b ∧ ∀ u, ts = [u] → PySem.W.kitOne K t (.type u.nm) = some b := by
    intro q tx e
    refine ⟨_, tx, (all q ts).trans e, fun u eu => ?_⟩
    subst eu
    rw [List.any_cons, List.any_nil, Bool.or_false] at e
    exact kit_ty ((kit_tab q u).trans e)
  cases r with
  | non =>
    cases h
    refine ⟨.type "NoneType", .base .non, ?_, fun u eu => kit_ty (kit_non u)⟩
    have q : ∀ ts : List Ty, PySem.W.kitAny K (.type "NoneType") (ts.map fun u => .type u.nm) = some false := by
      intro ts
      induction ts with
      | nil => exact kitAny_nil
      | cons u us ih => exact kitAny_cons (kit_ty (kit_non u)) (fun _ => ih) (fun e => by cases e)
    exact q ts
  | bl y => exact go (q := .bool) (.base (.bl y)) h
  | int y => exact go (q := .int) (.base (.int y)) h
  | str y => exact go (q := .str) (.base (.str y)) h
  | @ref i a hi =>
    obtain ⟨lk, xs, e⟩ := hr i rfl
    obtain ⟨ys, h1, _⟩ := S.some hi e
    exact go (q := .list) (.base (.lst h1)) h
  | tup h1 n1 r1 => exact go (q := .tuple) (.base (.tup h1)) h
  | lst h1 n1 r1 => exact go (q := .list) (.base (.lst h1)) h
  | scr h1 n1 => exact go (q := .list) (.base (.frz h1)) h
  | fn h1 => cases h
theorem ref_in (S : StR g.fa rho H s) {x : V} {i : Nat} (r : RV g.fa rho H x (.ref i)) : ∃ lk xs, s[i]? = some (SO.lst lk xs) := by
  cases r with
  | ref hi =>
    have hl : i < s.length := by rw [← S.len]; exact (List.getElem?_eq_some_iff.mp hi).1
    exact ⟨_, _, List.getElem?_eq_getElem hl⟩
theorem pe_ty {x : Str} {t : Ty} {p : Pos} (h : tyOf x = some t) (hg : Gl X x) (hm : X.mg x = none) : PE X (.Name x p) (tC (.ty t.nm)) := by
  unfold tyOf at h
  repeat' split at h
  all_goals first | (cases h; done) | skip
  all_goals
    rename_i hx
    subst hx
    simp only [Option.some.injEq] at h
    subst h
    exact pe_bltn hg hm (u := .type _) (by decide +kernel) rfl (by decide) (by decide)
theorem pa_ty (hb : ∀ x ∈ c.blt, mathN x = none → X.mg x = none) (hs : X.env.scope = sc) : ∀ {es : List Expr} {ts : List Ty}, tyL c sc es = some ts → PA X es (fun _ H Q => Q (ts.map fun t => .ty t.nm) H)
  | [], ts, h => by cases h; exact pa_nil
  | e :: es, ts, h => by
    cases e <;> first | (cases h; done) | skip
    rename_i x p
    unfold tyL at h
    split at h
    · rename_i hx
      split at h
      · rename_i t us e1 e2
        cases h
        have ng : mathN x = none := by
          unfold mathN
          rw [if_neg, if_neg, if_neg]
          · rintro rfl
            have z : tyOf "comb" = none := by decide
            rw [z] at e1; cases e1
          · rintro rfl
            have z : tyOf "lcm" = none := by decide
            rw [z] at e1; cases e1
          · rintro rfl
            have z : tyOf "gcd" = none := by decide
            rw [z] at e1; cases e1
        have hg : Gl X x := by show X.env.scope.names.lookup x = _; rw [hs]; exact hx.1
        exact pa_cons (pe_ty e1 hg (hb x hx.2 ng)) (pa_ty hb hs e2)
      · cases h
    · cases h
theorem paired_ty : ∀ ts : List Ty, Paired ClsV (ts.map fun t => V.ty t.nm) (ts.map fun t => Value.type t.nm)
  | [] => .nil
  | t :: ts => .cons (.ty _) (paired_ty ts)
/-! ### targets -/
theorem asgE_len {es : List Expr} (h : es.all plainE = true) (env : Env) : (assignEach es env).length = es.length ∧ (assignEach es env).findIdx? (·.1) = none := by
  induction es with
  | nil => exact ⟨rfl, rfl⟩
  | cons e es ih =>
    rw [List.all_cons, Bool.and_eq_true] at h
    have q : assignEach (e :: es) env = (false, assign e env) :: assignEach es env := by cases e <;> first | rfl | (have := h.1; cases this; done)
    obtain ⟨i1, i2⟩ := ih h.2
    rw [q]
    refine ⟨congrArg Nat.succ i1, ?_⟩
    rw [List.findIdx?_cons]
    simp [i2]
theorem asgE_cons {e : Expr} (h : plainE e = true) (es : List Expr) (env : Env) : (assignEach (e :: es) env).map (·.2) = assign e env :: (assignEach es env).map (·.2) := by
  cases e <;> first | rfl | (cases h; done)
/-- what a target's reading is: P holds of the slots behind -/
def tG (g : Gd) (ev : C → En → Sto → R D) (P : L2.St → L2.St → Prop) (t : T) : TG := fun v σ H Q => ∃ rho d e s, EnR g.fa rho H e σ ∧ StR g.fa rho H s ∧ RV g.fa rho H v d ∧
  Po g (fun _ _ _ => False) rho H (fun rho H σ2 e2 => EnR g.fa rho H e2 σ2 ∧ P σ σ2) (asg ev t d e s) Q
def tGs (g : Gd) (ev : C → En → Sto → R D) (P : L2.St → L2.St → Prop) (ts : List T) : TGs := fun vs σ H Q => ∃ rho ds e s, EnR g.fa rho H e σ ∧ StR g.fa rho H s ∧ RVs g.fa rho H vs ds ∧
  Po g (fun _ _ _ => False) rho H (fun rho H σ2 e2 => EnR g.fa rho H e2 σ2 ∧ P σ σ2) (asgs ev ts ds e s) Q
theorem PG.imp {e : Expr} {t t' : TG} (h : PG X e t) (k : ∀ v σ H Q, t' v σ H Q → t v σ H Q) : PG X e t' := ⟨fun pins s σ H v u Q I r q => h.run pins s σ H v u Q I r (k v σ H Q q)⟩
theorem PGs.imp {e : List Expr} {t t' : TGs} (h : PGs X e t) (k : ∀ v σ H Q, t' v σ H Q → t v σ H Q) : PGs X e t' := ⟨fun pins s σ H v u Q I r q => h.run pins s σ H v u Q I r (k v σ H Q q)⟩
theorem PG.none {e : Expr} {t : TG} (k : ∀ v σ H Q, ¬ t v σ H Q) : PG X e t := ⟨fun _ _ σ H v _ Q _ _ q => (k v σ H Q q).elim⟩
theorem PGs.none {e : List Expr} {t : TGs} (k : ∀ v σ H Q, ¬ t v σ H Q) : PGs X e t := ⟨fun _ _ σ H v _ Q _ _ q => (k v σ H Q q).elim⟩
/-- slots in own alone are stored -/
def Own (own : List Nat) (σ σ2 : L2.St) : Prop := wipe σ2 own = wipe σ own
theorem wipe_set {σ : L2.St} {i : Nat} {x : Option V} : ∀ {own : List Nat}, i ∈ own → wipe (σ.set i x) own = wipe σ own
  | [], h => by cases h
  | v :: vs, h => by
    show (wipe (σ.set i x) vs).set v Option.none = (wipe σ vs).set v Option.none
    by_cases hv : i ∈ vs
    · rw [wipe_set hv]
    · have e : i = v := by
        rcases List.mem_cons.mp h with h | h
        · exact h
        · exact absurd h hv
      subst e
      have q : ∀ vs : List Nat, i ∉ vs → wipe (σ.set i x) vs = (wipe σ vs).set i x := by
        intro vs
        induction vs with
        | nil => intro _; rfl
        | cons w ws ih =>
          intro hn
          have h1 : i ≠ w := fun e => hn (by rw [e]; exact List.mem_cons_self)
          show (wipe (σ.set i x) ws).set w Option.none = ((wipe σ ws).set w Option.none).set i x
          rw [ih fun z => hn (List.mem_cons_of_mem _ z), List.set_comm _ _ h1]
      rw [q vs hv, List.set_set]
theorem Po.relx {α β : Type} {Wv : Value → Option Addr → Hp → Prop} {Rl Rl' : List Addr → Hp → β → α → Prop} {r : R α} {Q : β → Hp → Prop} (h : Po g Wv rho H Rl r Q) (k : ∀ rho H x v, Rl' rho H x v → Rl rho H x v) : Po g Wv rho H Rl' r Q := by
  cases r with
  | ok v s => exact fun r1 H1 x e S R => h r1 H1 x e S (k _ _ _ _ R)
  | exc k s => exact h
  | fail => exact h
theorem Po.wimp {α β : Type} {Wv Wv' : Value → Option Addr → Hp → Prop} {Rl : List Addr → Hp → β → α → Prop} {r : R α} {Q : β → Hp → Prop} (h : Po g Wv rho H Rl r Q) (k : ∀ c d H, Wv c d H → Wv' c d H) : Po g Wv' rho H Rl r Q := by
  cases r with
  | ok v s => exact h
  | exc c s => obtain ⟨c, h1, h2⟩ := h; exact ⟨c, h1, fun r1 H1 e S => k _ _ _ (h2 r1 H1 e S)⟩
  | fail => exact h
theorem Po.quiet {α β : Type} {Wv Wv' : Value → Option Addr → Hp → Prop} {Rl : List Addr → Hp → β → α → Prop} {r : R α} {Q : β → Hp → Prop} (h : Po g Wv rho H Rl (Bw.quiet r) Q) : Po g Wv' rho H Rl r Q := by
  cases r with
  | ok v s => exact h
  | exc c s => exact h.elim
  | fail => exact h
/-- what two targets, one behind the other, keep -/
structure Keep (P : L2.St → L2.St → Prop) : Prop where
  refl : ∀ σ, P σ σ
  trans : ∀ σ σ1 σ2, P σ σ1 → P σ1 σ2 → P σ σ2
theorem Own.keep (own : List Nat) : Keep (Own own) := ⟨fun _ => rfl, fun _ _ _ a b => Eq.trans b a⟩
theorem tGs_cons {ev : C → En → Sto → R D} {P : L2.St → L2.St → Prop} (kp : Keep P) {t : T} {ts : List T} {v : List V} {σ : L2.St} {Q : L2.St → Hp → Prop} (h : tGs g ev P (t :: ts) v σ H Q) : gCons (tG g ev P t) (tGs g ev P ts) v σ H Q := by
  obtain ⟨rho, ds, e0, st, E, S, r, h⟩ := h
  cases r with
  | nil => exact h.elim
  | cons r1 r2 =>
    refine ⟨_, _, rfl, rho, _, e0, st, E, S, r1, ?_⟩
    refine Po.bind h fun e1 s1 rho1 H1 σ1 _ E1 S1 R1 h1 => ⟨rho1, _, e1, s1, R1.1, S1, r2.mono E1, ?_⟩
    exact Po.relx h1 fun rho H σ2 e2 q => ⟨q.1, kp.trans _ _ _ R1.2 q.2⟩
theorem tGs_nil {ev : C → En → Sto → R D} {P : L2.St → L2.St → Prop} (kp : Keep P) {v : List V} {σ : L2.St} {Q : L2.St → Hp → Prop} (h : tGs g ev P [] v σ H Q) : gNil v σ H Q := by
  obtain ⟨rho, ds, e, st, E, S, r, h⟩ := h
  cases r with
  | nil => exact ⟨rfl, h.val S ⟨E, kp.refl _⟩⟩
  | cons _ _ => exact h.elim
theorem tG_tup {ev : C → En → Sto → R D} {P : L2.St → L2.St → Prop} {ts : List T} {n : Nat} (hn : ts.length = n) {K : PySem.W.Frag} {v : V} {σ : L2.St} {Q : L2.St → Hp → Prop} (h : tG g ev P (.tup ts) v σ H Q) : gTup K n (tGs g ev P ts) v σ H Q := by
  obtain ⟨rho, d, e, st, E, S, r, h⟩ := h
  cases r <;> first | exact h.elim | skip
  rename_i a xs ds h1 n1 r1
  have h : Po g (fun _ _ _ => False) rho H (fun rho H σ2 e2 => EnR g.fa rho H e2 σ2 ∧ P σ σ2) (if ts.length = ds.length then asgs ev ts ds e st else .fail) Q := h
  split at h
  · rename_i hl
    exact ⟨a, xs, rfl, SqT.of h1, by rw [r1.length, ← hl, hn], rho, ds, e, st, E, S, r1, h⟩
  · exact h.elim
theorem tG_nm {ev : C → En → Sto → R D} {P : L2.St → L2.St → Prop} {i : Nat} {v : V} {σ : L2.St} {Q : L2.St → Hp → Prop} (h : tG g ev P (.nm i) v σ H Q) (hp : P σ (σ.set i (some v))) : gName i v σ H Q := by
  obtain ⟨rho, d, e, st, E, S, r, h⟩ := h
  have h' : Po g (fun _ _ _ => False) rho H (fun rho H σ2 e2 => EnR g.fa rho H e2 σ2 ∧ P σ σ2) (R.ok (e.set i (some d)) st) Q := by cases d <;> exact h
  exact h'.val S ⟨E.set i r, hp⟩
theorem tG_bad {ev : C → En → Sto → R D} {P : L2.St → L2.St → Prop} {v : V} {σ : L2.St} {Q : L2.St → Hp → Prop} (h : tG g ev P .bad v σ H Q) : False := by
  obtain ⟨rho, d, e, st, E, S, r, h⟩ := h
  cases d <;> exact h
theorem pgs_of {ev : C → En → Sto → R D} {P : L2.St → L2.St → Prop} (kp : Keep P) {f : Expr → T} (ih : ∀ e, PG X e (tG g ev P (f e))) : ∀ {es : List Expr}, es.all plainE = true → PGs X es (tGs g ev P (es.map f))
  | [], _ => PGs.imp pgs_nil fun v σ H Q h => tGs_nil kp h
  | e :: es, he => by
    rw [List.all_cons, Bool.and_eq_true] at he
    exact PGs.imp (pgs_cons (ih e) (pgs_of kp ih he.2) (asgE_cons he.1 es X.env)) fun v σ H Q h => tGs_cons kp h
theorem ownOf_at {N : List Str} : ∀ {l : List (Str × NameKind)} {own : List (Str × Nat)} {x : Str} {i : Nat}, ownOf N l = some own → (x, i) ∈ own → (x, NameKind.local) ∈ l ∨ (x, NameKind.cell) ∈ l
  | [], _, _, _, h, m => by cases h; cases m
  | (y, k) :: r, own, x, i, h, m => by
    simp only [ownOf] at h
    have up : ∀ {o : List (Str × Nat)}, ownOf N r = some o → (x, i) ∈ o → (x, NameKind.local) ∈ (y, k) :: r ∨ (x, NameKind.cell) ∈ (y, k) :: r := fun ho hm => (ownOf_at ho hm).imp (List.mem_cons_of_mem _) (List.mem_cons_of_mem _)
    split at h
    · rename_i hk
      split at h
      · rename_i i' l' e1 e2
        cases h
        rcases List.mem_cons.mp m with e | m
        · cases e
          rcases hk with rfl | rfl
          · exact .inl (List.mem_cons_self ..)
          · exact .inr (List.mem_cons_self ..)
        · exact up e2 m
      · rename_i l' e1 e2
        cases h
        exact up e2 m
      · cases h
    · exact up h m
theorem relS_local {scope sc : Scope} {x : Str} (h : scope.names.lookup x = some .local) : (relS scope sc).names.lookup x = some .local := by
  unfold relS
  simp only
  revert h
  generalize scope.names = l
  intro h
  induction l with
  | nil => cases h
  | cons p r ih =>
    obtain ⟨n, k⟩ := p
    rw [List.map_cons]
    by_cases e : x = n
    · subst e
      simp only [List.lookup_cons_self, Option.some.injEq] at h
      subst h
      simp [List.lookup]
    · have hne : (x == n) = false := beq_false_of_ne e
      simp only [List.lookup, hne] at h
      have := ih h
      split <;> simpa only [List.lookup, hne] using this
theorem own_cell {N : List Str} {sc scope : Scope} {own : List (Str × Nat)} {own1 : List Nat} (ho : ownOf N scope.names = some own) (hb : blkC N sc scope own = true) (sub : ∀ i ∈ own1, i ∈ own.map (·.2)) (x : Str) (i : Nat) (hi : ixOf N x = some i) (hm : i ∈ own1) (hl : (relS scope sc).names.lookup x = some .cell) : (scope.names.lookup x == some .cell) = true := by
  obtain ⟨⟨y, i'⟩, hm', rfl⟩ := List.mem_map.mp (sub i hm)
  unfold blkC at hb
  simp only [Bool.and_eq_true, List.all_eq_true, decide_eq_true_eq] at hb
  have h1 := hb.1.2 _ hm'
  have h2 := ixOf_ok hi
  simp only at h1 h2
  rw [h1] at h2
  cases h2
  rcases ownOf_at ho hm' with q | q
  · have := hb.1.1.2 _ q
    simp only at this
    rw [relS_local this] at hl
    cases hl
  · have := hb.1.1.2 _ q
    simp only at this
    rw [this]
    rfl
theorem cT_ok (hN : X.N = N) (nd : N.Nodup) (hs : X.env.scope = sc) (hc : X.calm = true) {own : List Nat} {ev : C → En → Sto → R D} (hfn : ∀ x i, ixOf N x = some i → i ∈ own → sc.names.lookup x = some .cell → X.fn x = true) : ∀ m e, PG X e (tG g ev (Own own) (cT N m sc own e))
  | 0, e => PG.none fun v σ H Q h => tG_bad h
  | m + 1, e => by
    have ih := cT_ok hN nd hs hc (own := own) (ev := ev) hfn m
    cases e <;> first | exact (PG.none fun v σ H Q h => tG_bad h) | skip
    · rename_i x p
      simp only [cT]
      split
      · rename_i i ei
        split
        · rename_i ho
          rcases ho.2 with ho2 | ho2
          · have hl : X.env.scope.names.lookup x = some .local := by rw [hs]; exact ho2
            exact PG.imp (pg_name (i := i) (by rw [hN]; exact nd) (by rw [hN]; exact ixOf_ok ei) (.inl hl) (.inr hl)) fun v σ H Q h => tG_nm h (wipe_set ho.1)
          · have hl : X.env.scope.names.lookup x = some .cell := by rw [hs]; exact ho2
            exact PG.imp (pg_name (i := i) (by rw [hN]; exact nd) (by rw [hN]; exact ixOf_ok ei) (.inr hl) (.inl (hfn x i ei ho.1 ho2))) fun v σ H Q h => tG_nm h (wipe_set ho.1)
        · exact PG.none fun v σ H Q h => tG_bad h
      · exact PG.none fun v σ H Q h => tG_bad h
    · rename_i es k p
      simp only [cT]
      split
      · rename_i he
        obtain ⟨l1, l2⟩ := asgE_len he X.env
        exact PG.imp (pg_tup hc (pgs_of (Own.keep own) ih he) l1 l2) fun v σ H Q h => tG_tup (List.length_map _) h
      · exact PG.none fun v σ H Q h => tG_bad h
end
end Bw

set_option Elab.async false
set_option linter.all false
set_option maxRecDepth 100000
set_option maxHeartbeats 4000000
/-! Bw: what loops go over; comprehensions -/
namespace Bw
open PySem PySem.Spec PyProof.Rows L2
section
variable {g : Gd} {c : Cfg} {N : List Str} {cf : CF} {j : Nat} {X : Cx} {sc : Scope} {W : WX} {rho rho' : List Addr} {H H' : Hp} {s : Sto} {σ : L2.St} {Q : VK}
/-- an iterator gives the items ds -/
def Gs (g : Gd) (rho0 : List Addr) (H0 : Hp) (J : L2.It) (p : Src × List D) : Prop := ∃ (G : Hp → Prop) (Y : Nat → Hp → V → Hp → Prop), Walk J p.2.length G Y ∧
  (∀ k rho H s, Evo rho0 H0 rho H → StR g.fa rho H s → chk p.1 p.2.length k p.2[k]? s = true → G H) ∧
  (∀ (k : Nat) (d : D) rho H s x H', p.2[k]? = some d → Evo rho0 H0 rho H → StR g.fa rho H s → chk p.1 p.2.length k (some d) s = true → Y k H x H' → Evo rho H rho H' ∧ StR g.fa rho H' s ∧ RV g.fa rho H' x d)
theorem gs_tup {K : PySem.W.Frag} {a : Addr} {xs : List V} {ds : List D} (h : H a = some (.tup xs)) (n : a ∉ rho) (r : RVs g.fa rho H xs ds) : Gs g rho H (Itt K a) (none, ds) := by
  refine ⟨_, _, r.length ▸ walk_tup (K := K) (a := a) (xs := xs), fun k rho' H' s E S _ => SqT.of (E.same _ _ h n), fun k d rho' H' s x H2 hd E S _ y => ?_⟩
  obtain ⟨rfl, y⟩ := y
  obtain ⟨v, hv, rv⟩ := r.at hd
  rw [y] at hv
  cases hv
  exact ⟨Evo.refl _ _, S, rv.mono E⟩
theorem gs_lst {K : PySem.W.Frag} {a : Addr} {xs : List V} {ds : List D} (h : H a = some (.lst xs)) (n : a ∉ rho) (r : RVs g.fa rho H xs ds) : Gs g rho H (Itl K a) (none, ds) := by
  refine ⟨_, _, r.length ▸ walk_list (K := K) (a := a) (xs := xs), fun k rho' H' s E S _ => SqL.of (E.same _ _ h n), fun k d rho' H' s x H2 hd E S _ y => ?_⟩
  obtain ⟨rfl, y⟩ := y
  obtain ⟨v, hv, rv⟩ := r.at hd
  rw [y] at hv
  cases hv
  exact ⟨Evo.refl _ _, S, rv.mono E⟩
theorem gs_scr {K : PySem.W.Frag} {a : Addr} {o : Obj} {ns : List Int} (h : H a = some (.frz o (.lst (ns.map V.int)))) (n : a ∉ rho) : Gs g rho H (Itl K a) (none, ns.map D.int) := by
  refine ⟨fun H => SqL K H a (ns.map V.int), YAt (ns.map V.int), (by show Walk _ (ns.map D.int).length _ _; rw [List.length_map, ← List.length_map V.int]; exact walk_list (K := K) (a := a) (xs := ns.map V.int)), fun k rho' H' s E S _ => Or.inl (Or.inr ⟨o, E.same _ _ h n⟩), fun k d rho' H' s x H2 hd E S _ y => ?_⟩
  obtain ⟨rfl, y⟩ := y
  obtain ⟨v, hv, rv⟩ := (RVs.ofInts (fa := g.fa) (rho := rho') (H := H2) ns).at hd
  rw [y] at hv
  cases hv
  exact ⟨Evo.refl _ _, S, rv⟩
theorem gs_revT {K : PySem.W.Frag} {a : Addr} {xs : List V} {ds : List D} (h : H a = some (.tup xs)) (n : a ∉ rho) (r : RVs g.fa rho H xs ds) : Gs g rho H (RT.ItvT K a xs.length) (none, ds.reverse) := by
  refine ⟨fun H => SqT K H a xs, fun i H x H' => H' = H ∧ xs[xs.length - 1 - i]? = some x, ?_, fun k rho' H' s E S _ => SqT.of (E.same _ _ h n), fun k d rho' H' s x H2 hd E S _ y => ?_⟩
  · rw [List.length_reverse, ← r.length]
    exact ⟨fun i _ hi q => ⟨hi, xs, xs[xs.length - 1 - i]'(by omega), q, by simp [show xs.length - 1 - i < xs.length by omega]⟩, fun _ _ => Nat.le_refl _, fun _ _ _ _ _ q y => ⟨y.1, y.2 xs q⟩⟩
  · obtain ⟨rfl, y⟩ := y
    have hk : k < ds.length := by have := (List.getElem?_eq_some_iff.mp hd).1; simpa using this
    rw [List.getElem?_reverse hk] at hd
    obtain ⟨v, hv, rv⟩ := r.at hd
    rw [← r.length, y] at hv
    cases hv
    exact ⟨Evo.refl _ _, S, rv.mono E⟩
theorem gs_revL {K : PySem.W.Frag} {a : Addr} {xs : List V} {ds : List D} (h : H a = some (.lst xs)) (n : a ∉ rho) (r : RVs g.fa rho H xs ds) : Gs g rho H (Itv K a xs.length) (none, ds.reverse) := by
  refine ⟨fun H => SqL K H a xs, fun i H x H' => H' = H ∧ xs[xs.length - 1 - i]? = some x, ?_, fun k rho' H' s E S _ => SqL.of (E.same _ _ h n), fun k d rho' H' s x H2 hd E S _ y => ?_⟩
  · rw [List.length_reverse, ← r.length]
    exact walk_rev
  · obtain ⟨rfl, y⟩ := y
    have hk : k < ds.length := by have := (List.getElem?_eq_some_iff.mp hd).1; simpa using this
    rw [List.getElem?_reverse hk] at hd
    obtain ⟨v, hv, rv⟩ := r.at hd
    rw [← r.length, y] at hv
    cases hv
    exact ⟨Evo.refl _ _, S, rv.mono E⟩
/-- what the look at a list in the store tells -/
theorem chk_at {i n k : Nat} {b : Bool} {d : Option D} {a : Addr} (S : StR g.fa rho H s) (hi : rho[i]? = some a) (h : chk (some (i, .bk b)) n k d s = true) :
    ∃ xs ds, H a = some (.lst xs) ∧ RVs g.fa rho H xs ds ∧ ds.length = n ∧ ∀ d0, d = some d0 → ds[if b then n - 1 - k else k]? = some d0 := by
  simp only [chk] at h
  split at h
  · rename_i lk ds e
    rw [Bool.and_eq_true] at h
    obtain ⟨xs, h1, h2⟩ := S.some hi e
    refine ⟨xs, ds, h1, h2, of_decide_eq_true h.1, fun d0 e0 => ?_⟩
    subst e0
    have h3 := h.2
    simp only at h3
    split at h3
    · rename_i d' e'
      rw [e', beqD_eq h3]
    · cases h3
  · cases h
theorem walk_ref {K : PySem.W.Frag} {a : Addr} (n : Nat) : Walk (Itl K a) n (fun H => ∃ xs, H a = some (.lst xs) ∧ xs.length = n) (fun i H x H' => H' = H ∧ ∃ xs, H a = some (.lst xs) ∧ xs[i]? = some x) :=
  ⟨fun i H hi ⟨xs, q, l⟩ => ⟨xs, xs[i]'(by rw [l]; exact hi), SqL.of q, by simp [show i < xs.length by omega]⟩, fun H ⟨xs, q, l⟩ => ⟨xs, SqL.of q, by omega⟩, fun i H x H' _ ⟨xs, q, l⟩ y => ⟨y.1, xs, q, y.2 xs (SqL.of q)⟩⟩
theorem walk_refV {K : PySem.W.Frag} {a : Addr} (n : Nat) : Walk (Itv K a n) n (fun H => ∃ xs, H a = some (.lst xs) ∧ xs.length = n) (fun i H x H' => H' = H ∧ ∃ xs, H a = some (.lst xs) ∧ xs[n - 1 - i]? = some x) :=
  ⟨fun i H hi ⟨xs, q, l⟩ => ⟨hi, xs, xs[n - 1 - i]'(by rw [l]; omega), SqL.of q, by simp [show n - 1 - i < xs.length by omega]⟩, fun H _ => Nat.le_refl _, fun i H x H' _ ⟨xs, q, l⟩ y => ⟨y.1, xs, q, y.2 xs (SqL.of q)⟩⟩
theorem gs_ref {K : PySem.W.Frag} {i : Nat} {a : Addr} {ds : List D} (hi : rho[i]? = some a) : Gs g rho H (Itl K a) (some (i, .bk false), ds) := by
  refine ⟨_, _, walk_ref ds.length, fun k rho' H' s E S hc => ?_, fun k d rho' H' s x H2 hd E S hc y => ?_⟩
  · obtain ⟨xs, es, h1, h2, l, _⟩ := chk_at S (E.at hi) hc
    exact ⟨xs, h1, by rw [h2.length, l]⟩
  · obtain ⟨rfl, ys, q, y⟩ := y
    obtain ⟨xs, es, h1, h2, l2, hd2⟩ := chk_at S (E.at hi) hc
    have he := hd2 d rfl
    simp only [Bool.false_eq_true, if_false] at he
    obtain ⟨v, hv, rv⟩ := h2.at he
    rw [h1] at q
    cases q
    rw [y] at hv
    cases hv
    exact ⟨Evo.refl _ _, S, rv⟩
theorem gs_revR {K : PySem.W.Frag} {i : Nat} {a : Addr} {ds : List D} (hi : rho[i]? = some a) : Gs g rho H (Itv K a ds.length) (some (i, .bk true), ds) := by
  refine ⟨_, _, walk_refV ds.length, fun k rho' H' s E S hc => ?_, fun k d rho' H' s x H2 hd E S hc y => ?_⟩
  · obtain ⟨xs, es, h1, h2, l, _⟩ := chk_at S (E.at hi) hc
    exact ⟨xs, h1, by rw [h2.length, l]⟩
  · obtain ⟨rfl, ys, q, y⟩ := y
    obtain ⟨xs, es, h1, h2, l2, hd2⟩ := chk_at S (E.at hi) hc
    have he := hd2 d rfl
    simp only [if_true] at he
    obtain ⟨v, hv, rv⟩ := h2.at he
    rw [h1] at q
    cases q
    rw [y] at hv
    cases hv
    exact ⟨Evo.refl _ _, S, rv⟩
theorem gs_range {lo : Int} {n : Nat} : Gs g rho H (Itr lo n) (none, (List.range n).map fun i => D.int (lo + (i : Nat))) := by
  refine ⟨_, _, (by rw [List.length_map, List.length_range]; exact walk_range), fun _ _ _ _ _ _ _ => trivial, fun k d rho' H' s x H2 hd E S _ y => ?_⟩
  obtain ⟨rfl, rfl⟩ := y
  rw [List.getElem?_map] at hd
  cases hk : (List.range n)[k]? with
  | none => rw [hk] at hd; cases hd
  | some m =>
    rw [hk] at hd
    have e : m = k := by
      obtain ⟨hl, e⟩ := List.getElem?_eq_some_iff.mp hk
      rw [← e]
      simp
    subst e
    cases hd
    exact ⟨Evo.refl _ _, S, .int _⟩
theorem pair_new {x y : V} {d e : D} {T : Addr} (S : StR g.fa rho H s) (n : H T = none) (rx : RV g.fa rho H x d) (ry : RV g.fa rho H y e) : Evo rho H rho (upd H T (.tup [x, y])) ∧ StR g.fa rho (upd H T (.tup [x, y])) s ∧ RV g.fa rho (upd H T (.tup [x, y])) (.ref T) (.tup [d, e]) :=
  ⟨Evo.laid n, S.laid n, .tup upd_same (S.out n) (.cons (rx.mono (Evo.laid n)) (.cons (ry.mono (Evo.laid n)) .nil))⟩
theorem zipD_at : ∀ {xs ys : List D} {k : Nat} {d : D}, (zipD xs ys)[k]? = some d → ∃ x y, xs[k]? = some x ∧ ys[k]? = some y ∧ d = .tup [x, y]
  | [], _, _, _, h => by simp [zipD] at h
  | _ :: _, [], _, _, h => by simp [zipD] at h
  | x :: xs, y :: ys, 0, d, h => by simp [zipD] at h; exact ⟨x, y, rfl, rfl, h.symm⟩
  | x :: xs, y :: ys, k + 1, d, h => by
    have := zipD_at (xs := xs) (ys := ys) (k := k) (d := d) (by simpa [zipD] using h)
    simpa using this
theorem zipD_len : ∀ (xs ys : List D), (zipD xs ys).length = min xs.length ys.length
  | [], ys => by simp [zipD]
  | x :: xs, [] => by simp [zipD]
  | x :: xs, y :: ys => by simp [zipD, zipD_len xs ys]
theorem enumD_at : ∀ {xs : List D} {m k : Nat} {d : D}, (enumD m xs)[k]? = some d → ∃ x, xs[k]? = some x ∧ d = .tup [.int ((m + k : Nat) : Int), x]
  | [], _, _, _, h => by simp [enumD] at h
  | x :: xs, m, 0, d, h => by simp [enumD] at h; exact ⟨x, rfl, h.symm⟩
  | x :: xs, m, k + 1, d, h => by
    obtain ⟨y, h1, h2⟩ := enumD_at (xs := xs) (m := m + 1) (k := k) (d := d) (by simpa [enumD] using h)
    exact ⟨y, by simpa using h1, by rw [h2, show m + 1 + k = m + (k + 1) by omega]⟩
theorem enumD_len : ∀ (m : Nat) (xs : List D), (enumD m xs).length = xs.length
  | _, [] => rfl
  | m, x :: xs => by simp [enumD, enumD_len (m + 1) xs]
theorem gs_enuW {K : PySem.W.Frag} {b : Bool} {a : Addr} {xs : List V} {ds : List D} {m : Nat} (h : H a = some (if b then .tup xs else .lst xs)) (n : a ∉ rho) (r : RVs g.fa rho H xs ds) : Gs g rho H (ItW K b a (m : Nat)) (none, enumD m ds) := by
  refine ⟨_, _, (by rw [enumD_len, ← r.length]; exact walk_w (K := K) (a := a) (b := b) (l := xs)), fun k rho' H' s E S _ => ?_, fun k d rho' H' s x H2 hd E S _ y => ?_⟩
  · cases b
    · exact SqL.of (E.same _ _ h n)
    · exact SqT.of (E.same _ _ h n)
  · obtain ⟨d1, e1, rfl⟩ := enumD_at hd
    obtain ⟨T, u, v, rfl, nT, rfl, hu, hv⟩ := y
    obtain ⟨v', hv', rv⟩ := r.at e1
    rw [show xs[k]? = some v from hv] at hv'; cases hv'
    have hu : some (V.int ((m : Int) + (k : Nat))) = some u := hu
    cases hu
    rw [show ((m + k : Nat) : Int) = (m : Int) + (k : Nat) by omega]
    exact pair_new S nT (.int _) (rv.mono E)
theorem isL_at {v : V} {d : D} {ds : List D} (S : StR g.fa rho H s) (r : RV g.fa rho H v d) (h : isL s d = some ds) : ∃ a xs, v = .ref a ∧ H a = some (.lst xs) ∧ RVs g.fa rho H xs ds := by
  cases r with
  | lst h2 n2 r2 => cases h; exact ⟨_, _, rfl, h2, r2⟩
  | @ref i a hi =>
    simp only [isL] at h
    split at h
    · rename_i lk xs e
      cases h
      obtain ⟨ys, h3, r3⟩ := S.some hi e
      exact ⟨_, _, rfl, h3, r3⟩
    · cases h
  | _ => cases h
/-- a list that holds ds, as long as the look says so -/
def Hold (g : Gd) (l : List (Nat × List D)) (rho0 : List Addr) (H0 : Hp) (a : Addr) (ds : List D) : Prop := ∀ rho H s, Evo rho0 H0 rho H → StR g.fa rho H s → chkA l s = true → ∃ xs, H a = some (.lst xs) ∧ RVs g.fa rho H xs ds
theorem isL_hold {l : List (Nat × List D)} {v : V} {d : D} {ds : List D} (S : StR g.fa rho H s) (r : RV g.fa rho H v d) (h : isL s d = some ds) (m : ∀ p ∈ wit d ds, p ∈ l) : ∃ a xs, v = .ref a ∧ H a = some (.lst xs) ∧ Hold g l rho H a ds := by
  cases r with
  | lst h2 n2 r2 => cases h; exact ⟨_, _, rfl, h2, fun rho' H' s' E' S' _ => ⟨_, E'.same _ _ h2 n2, r2.mono E'⟩⟩
  | @ref i a hi =>
    simp only [isL] at h
    split at h
    · rename_i lk xs e
      cases h
      obtain ⟨ys, h3, r3⟩ := S.some hi e
      refine ⟨_, _, rfl, h3, fun rho' H' s' E' S' hc => ?_⟩
      unfold chkA at hc
      rw [List.all_eq_true] at hc
      have hk := hc _ (m (i, ds) (by simp [wit]))
      simp only at hk
      split at hk
      · rename_i lk' zs e'
        obtain ⟨us, h4, h5⟩ := S'.some (E'.at hi) e'
        have := beqDs_eq hk
        subst this
        exact ⟨us, h4, h5⟩
      · cases hk
    · cases h
  | _ => cases h
/-- .. a list or a tuple -/
def HoldB (g : Gd) (l : List (Nat × List D)) (rho0 : List Addr) (H0 : Hp) (b : Bool) (a : Addr) (ds : List D) : Prop := ∀ rho H s, Evo rho0 H0 rho H → StR g.fa rho H s → chkA l s = true → ∃ xs, Sq b H a xs ∧ RVs g.fa rho H xs ds
  where Sq (b : Bool) (H : Hp) (a : Addr) (xs : List V) : Prop := H a = some (match b with
    | true => .tup xs
    | false => .lst xs)
theorem sq_sb {K : PySem.W.Frag} {b : Bool} {a : Addr} {xs : List V} (h : HoldB.Sq b H a xs) : Sb K b a H xs := by
  cases b with
  | true => exact SqT.of h
  | false => exact SqL.of h
theorem items_hold {l : List (Nat × List D)} {v : V} {d : D} {ds : List D} (S : StR g.fa rho H s) (r : RV g.fa rho H v d) (h : items s d = some ds) (m : ∀ p ∈ wit d ds, p ∈ l) : ∃ b a xs, v = .ref a ∧ HoldB.Sq b H a xs ∧ HoldB g l rho H b a ds := by
  cases r with
  | tup h2 n2 r2 => cases h; exact ⟨true, _, _, rfl, h2, fun rho' H' s' E' S' _ => ⟨_, E'.same _ _ h2 n2, r2.mono E'⟩⟩
  | lst h2 n2 r2 => cases h; exact ⟨false, _, _, rfl, h2, fun rho' H' s' E' S' _ => ⟨_, E'.same _ _ h2 n2, r2.mono E'⟩⟩
  | @ref i a hi =>
    simp only [items] at h
    split at h
    · rename_i lk xs e
      cases h
      obtain ⟨a', ys, ea, h3, hh⟩ := isL_hold (l := l) (ds := ds) S (RV.ref (fa := g.fa) (H := H) hi) (by simp only [isL, e]) m
      cases ea
      exact ⟨false, a, ys, rfl, h3, hh⟩
    · cases h
  | _ => cases h
theorem gs_zipM {K : PySem.W.Frag} {b1 b2 : Bool} {a b : Addr} {ds es : List D} {l : List (Nat × List D)} {src : Src} (hs : ∀ n k d s, chk src n k d s = true → chkA l s = true) (h : HoldB g l rho H b1 a ds) (h' : HoldB g l rho H b2 b es) : Gs g rho H (ItzM K b1 b2 a b) (src, zipD ds es) := by
  refine ⟨fun H => (∃ xs, HoldB.Sq b1 H a xs ∧ xs.length = ds.length) ∧ ∃ ys, HoldB.Sq b2 H b ys ∧ ys.length = es.length,
    fun i H v H' => ∃ T x y, v = .ref T ∧ H T = none ∧ H' = upd H T (.tup [x, y]) ∧ (∀ xs, Sb K b1 a H xs → xs[i]? = some x) ∧ ∀ ys, Sb K b2 b H ys → ys[i]? = some y, ?_, fun k rho' H' s E S hc => ?_, fun k d rho' H' s x H2 hd E S hc y => ?_⟩
  · show Walk _ (zipD ds es).length _ _
    rw [zipD_len]
    refine ⟨fun i _ hi q => ?_, fun _ q => ?_, fun i H v H' _ q y => y⟩
    · obtain ⟨⟨xs, q1, l1⟩, ys, q2, l2⟩ := q
      have h1 : i < xs.length := by omega
      have h2 : i < ys.length := by omega
      exact ⟨xs, ys, xs[i], ys[i], sq_sb q1, sq_sb q2, by simp [h1], by simp [h2]⟩
    · obtain ⟨⟨xs, q1, l1⟩, ys, q2, l2⟩ := q
      exact ⟨xs, ys, sq_sb q1, sq_sb q2, by omega, by omega, by omega⟩
  · obtain ⟨xs, h1, r1⟩ := h rho' H' s E S (hs _ _ _ _ hc)
    obtain ⟨ys, h2, r2⟩ := h' rho' H' s E S (hs _ _ _ _ hc)
    exact ⟨⟨xs, h1, r1.length⟩, ys, h2, r2.length⟩
  · obtain ⟨d1, d2, e1, e2, rfl⟩ := zipD_at hd
    obtain ⟨T, u, v, rfl, nT, rfl, hu, hv⟩ := y
    obtain ⟨xs, h1, r1⟩ := h rho' H' s E S (hs _ _ _ _ hc)
    obtain ⟨ys, h2, r2⟩ := h' rho' H' s E S (hs _ _ _ _ hc)
    obtain ⟨u', hu', ru⟩ := r1.at e1
    obtain ⟨v', hv', rv⟩ := r2.at e2
    rw [hu xs (sq_sb h1)] at hu'; cases hu'
    rw [hv ys (sq_sb h2)] at hv'; cases hv'
    exact pair_new S nT ru rv
theorem gs_enuH {K : PySem.W.Frag} {a : Addr} {ds : List D} {l : List (Nat × List D)} {m : Nat} (h : Hold g l rho H a ds) : Gs g rho H (ItW K false a (m : Nat)) (some (0, .all l), enumD m ds) := by
  refine ⟨fun H => ∃ xs, H a = some (.lst xs) ∧ xs.length = ds.length,
    fun k H v H' => ∃ T y, v = .ref T ∧ H T = none ∧ H' = upd H T (.tup [.int ((m : Int) + (k : Nat)), y]) ∧ ∀ l, Sb K false a H l → l[k]? = some y, ?_, fun k rho' H' s E S hc => ?_, fun k d rho' H' s x H2 hd E S hc y => ?_⟩
  · show Walk _ (enumD m ds).length _ _
    rw [enumD_len]
    refine ⟨fun i _ hi q => ?_, fun _ q => ?_, fun i H v H' _ q y => y⟩
    · obtain ⟨xs, q1, l1⟩ := q
      have h1 : i < xs.length := by omega
      exact ⟨xs, xs[i], SqL.of q1, by simp [h1]⟩
    · obtain ⟨xs, q1, l1⟩ := q
      exact ⟨xs, SqL.of q1, l1⟩
  · obtain ⟨xs, h1, r1⟩ := h rho' H' s E S hc
    exact ⟨xs, h1, r1.length⟩
  · obtain ⟨d1, e1, rfl⟩ := enumD_at hd
    obtain ⟨T, v, rfl, nT, rfl, hv⟩ := y
    obtain ⟨xs, h1, r1⟩ := h rho' H' s E S hc
    obtain ⟨v', hv', rv⟩ := r1.at e1
    rw [hv xs (SqL.of h1)] at hv'; cases hv'
    rw [show ((m + k : Nat) : Int) = (m : Int) + (k : Nat) by omega]
    exact pair_new S nT (.int _) rv
/-- the reading of what is gone over -/
def tI (g : Gd) (W : WX) (ev : C → En → Sto → R D) (it : It) : TI := fun σ H R => ∃ rho e s, EnR g.fa rho H e σ ∧ StR g.fa rho H s ∧ Po g (fun c d H => W c d σ H) rho H (Gs g) (evIt ev it e s) R
theorem PI.imp {tg e : Expr} {t t' : TI} (h : PI X tg e t) (k : ∀ σ H R, t' σ H R → t σ H R) : PI X tg e t' := ⟨fun pins s σ H R I q => h.run pins s σ H R I (k σ H R q)⟩
theorem PI.none {tg e : Expr} {t : TI} (k : ∀ σ H R, ¬ t σ H R) : PI X tg e t := ⟨fun _ _ σ H R _ q => (k σ H R q).elim⟩
theorem PI.or {tg e : Expr} {t u : TI} (h : PI X tg e t) (h' : PI X tg e u) : PI X tg e (fun σ H Q => t σ H Q ∨ u σ H Q) := ⟨fun pins s σ H Q I q => q.elim (h.run pins s σ H Q I) (h'.run pins s σ H Q I)⟩
theorem pi_sq {ev : C → En → Sto → R D} {cc : C} {tg e : Expr} (he : PE X e (tE g W ev cc)) : PI X tg e (tI g W ev (.sq cc)) := by
  refine PI.imp (PI.or (pi_list he) (pi_tup he)) fun σ H R h => ?_
  obtain ⟨rho, e0, st, E, S, h⟩ := h
  have h : Po g (fun c d H => W c d σ H) rho H (Gs g) ((ev cc e0 st).bind fun x s1 => match x with
    | .ref i => (match s1[i]? with
      | some (.lst _ xs) => Bw.R.ok (some (i, .bk false), xs) s1
      | _ => .fail)
    | .scr ns => .ok (none, ns.map .int) s1
    | d => (match items s1 d with
      | some xs => .ok (none, xs) s1
      | none => .fail)) R := h
  cases hr : ev cc e0 st with
  | fail => rw [hr] at h; exact h.elim
  | exc k s1 =>
    rw [hr] at h
    exact .inl ⟨rho, e0, st, E, S, by rw [hr]; exact h⟩
  | ok d s1 =>
    by_cases hd : ∃ xs, d = .tup xs
    · obtain ⟨ds, rfl⟩ := hd
      refine .inr ⟨rho, e0, st, E, S, Po.bind h fun v s2 rho1 H1 x er E1 S1 R1 h1 => ?_⟩
      rw [hr] at er
      cases er
      cases R1 with
      | tup h2 n2 r2 => exact ⟨_, rfl, ⟨_, SqT.of h2⟩, h1.val S1 (gs_tup h2 n2 r2)⟩
    · refine .inl ⟨rho, e0, st, E, S, Po.bind h fun v s2 rho1 H1 x er E1 S1 R1 h1 => ?_⟩
      rw [hr] at er
      cases er
      cases R1 with
      | tup h2 n2 r2 => exact absurd ⟨_, rfl⟩ hd
      | lst h2 n2 r2 => exact ⟨_, rfl, ⟨_, SqL.of h2⟩, h1.val S1 (gs_lst h2 n2 r2)⟩
      | @scr a o ns h2 n2 => exact ⟨_, rfl, ⟨_, .inl (.inr ⟨o, h2⟩)⟩, h1.val S1 (gs_scr h2 n2)⟩
      | @ref i a hi =>
        simp only at h1
        split at h1
        · rename_i lk xs e
          obtain ⟨ys, h3, _⟩ := S1.some hi e
          exact ⟨_, rfl, ⟨_, SqL.of h3⟩, h1.val S1 (gs_ref hi)⟩
        · exact h1.elim
      | _ => exact h1.elim
end
end Bw

set_option Elab.async false
set_option linter.all false
set_option maxRecDepth 100000
set_option maxHeartbeats 4000000
/-! Bw: comprehensions -/
namespace Bw
open PySem PySem.Spec PyProof.Rows L2
section
variable {g : Gd} {c : Cfg} {N : List Str} {cf : CF} {j : Nat} {X : Cx} {sc : Scope} {W : WX} {rho rho' : List Addr} {H H' : Hp} {s : Sto} {σ : L2.St} {Q : VK}
/-- what the trees come to, by one clock -/
structure Ih (g : Gd) (c : Cfg) (N : List Str) (cf : CF) (j : Nat) (ev : C → En → Sto → R D) : Prop where
  pe : ∀ (X : Cx) (sc : Scope) (W : WX) (m : Nat) (e : Expr), Fit g c N cf j X sc W → PE X e (tE g W ev (cE c N m sc e))
  pt : ∀ (X : Cx) (sc : Scope) (W : WX) (m : Nat) (e : Expr), Fit g c N cf j X sc W → PT X e (tT g W ev (cE c N m sc e))
theorem Fit.gl (F : Fit g c N cf j X sc W) {x : Str} (h : sc.names.lookup x = some .globalImplicit) : Gl X x := by
  show X.env.scope.names.lookup x = _
  rw [F.sc]; exact h
theorem Fit.free (F : Fit g c N cf j X sc W) {x : Str} (h : x ∈ c.blt) (n : mathN x = none) : X.mg x = none := by rw [F.blt x h, n]; rfl
theorem Fit.units (F : Fit g c N cf j X sc W) : X.A.units + 65 < cLine := by
  have := (F.room.mono F.j0).un
  omega
theorem Fit.blk (F : Fit g c N cf j X sc W) (s : Shared) (H : Hp) (scope : Scope) (cl : List (Str × Addr)) (C : Addr) (fp : List Addr) : Fit g c N cf j (X.blk s H scope (compEnvC scope cl C X.env) fp) (relS scope sc) (fun _ _ _ _ => False) where
  hN := F.hN
  nd := F.nd
  sc := by rw [← F.sc]; rfl
  calm := F.calm
  tk := takes0
  room := F.room
  j0 := F.j0
  own := PassesOwn.never
  fns := F.fns
  len := F.len
  calls := F.calls
  fnP := F.fnP
  blt := F.blt
  con := F.con
/-- as Po.bind, the ground as it was -/
theorem Po.bind0 {α β γ δ : Type} {Wv Wv' : Value → Option Addr → Hp → Prop} {rho0 : List Addr} {H0 : Hp} {Rl : List Addr → Hp → β → α → Prop} {Rm : List Addr → Hp → δ → γ → Prop} {r : R α} {f : α → Sto → R γ} {Q : δ → Hp → Prop} {Q' : β → Hp → Prop} (h : Po g Wv' rho0 H0 Rm ((Bw.quiet r).bind f) Q)
    (k : ∀ v s1 r1 H1 x, r = .ok v s1 → Evo rho H r1 H1 → StR g.fa r1 H1 s1 → Rl r1 H1 x v → Po g Wv' rho0 H0 Rm (f v s1) Q → Q' x H1) : Po g Wv rho H Rl r Q' := by
  cases r with
  | ok v s => exact fun r1 H1 x e S R => k v s r1 H1 x rfl e S R h
  | exc k s => exact h.elim
  | fail => exact h.elim
theorem evT_quiet {α : Type} (ev : C → En → Sto → R D) (cc : C) (e : En) (s : Sto) : True := trivial
mutual
theorem RV.down {rho1 : List Addr} (hs : ∀ a, a ∈ rho1 → a ∈ rho) : ∀ {v : V} {d : D}, RV g.fa rho H v d → clean d = true → RV g.fa rho1 H v d
  | _, _, .non, _ => .non
  | _, _, .bl b, _ => .bl b
  | _, _, .int i, _ => .int i
  | _, _, .str x, _ => .str x
  | _, _, .ref h, q => by cases q
  | _, _, .tup h n r, q => .tup h (fun z => n (hs _ z)) (RVs.down hs r q)
  | _, _, .lst h n r, q => .lst h (fun z => n (hs _ z)) (RVs.down hs r q)
  | _, _, .scr h n, q => by cases q
  | _, _, .fn h, _ => .fn h
theorem RVs.down {rho1 : List Addr} (hs : ∀ a, a ∈ rho1 → a ∈ rho) : ∀ {vs : List V} {ds : List D}, RVs g.fa rho H vs ds → cleans ds = true → RVs g.fa rho1 H vs ds
  | _, _, .nil, _ => .nil
  | _, _, .cons a b, q => by
    have q2 := Bool.and_eq_true_iff.mp (show (clean _ && cleans _) = true from q)
    exact .cons (RV.down hs a q2.1) (RVs.down hs b q2.2)
end
/-- the store cut back -/
theorem StR.cut {l : List Addr} (S : StR g.fa (rho ++ l) H s) : StR g.fa rho H (s.take rho.length) := by
  have hl : rho.length ≤ s.length := by have := S.len; rw [List.length_append] at this; omega
  refine ⟨by rw [List.length_take]; omega, (List.nodup_append.mp S.nd).1, fun i a lk ds h q => ?_⟩
  have hi : i < rho.length := (List.getElem?_eq_some_iff.mp h).1
  rw [List.getElem?_take_of_lt hi] at q
  obtain ⟨xs, h1, h2, h3⟩ := S.at_ i a lk ds (by rw [List.getElem?_append_left hi]; exact h) q
  exact ⟨xs, h1, h2.down (fun a z => List.mem_append_left _ z) h3, h3⟩
theorem wipe_id : ∀ {vs : List Nat} {τ : L2.St}, (∀ i ∈ vs, τ[i]? = some none ∨ τ[i]? = none) → wipe τ vs = τ
  | [], _, _ => rfl
  | v :: vs, τ, h => by
    show (wipe τ vs).set v Option.none = τ
    rw [wipe_id fun i hi => h i (List.mem_cons_of_mem _ hi)]
    apply List.ext_getElem?
    intro i
    by_cases e : v = i
    · subst e
      rcases h v List.mem_cons_self with q | q
      · rw [List.getElem?_set_self (List.getElem?_eq_some_iff.mp q).1, q]
      · rw [q, List.getElem?_eq_none]
        rw [List.length_set]
        exact List.getElem?_eq_none_iff.mp q
    · rw [List.getElem?_set_ne e]
theorem wipe_at : ∀ {vs : List Nat} {τ : L2.St} {i : Nat}, i ∈ vs → (wipe τ vs)[i]? = some none ∨ (wipe τ vs)[i]? = none
  | v :: vs, τ, i, h => by
    show ((wipe τ vs).set v Option.none)[i]? = _ ∨ ((wipe τ vs).set v Option.none)[i]? = _
    by_cases e : v = i
    · subst e
      by_cases hl : v < (wipe τ vs).length
      · exact .inl (List.getElem?_set_self hl)
      · exact .inr (List.getElem?_eq_none (by rw [List.length_set]; omega))
    · rw [List.getElem?_set_ne e]
      rcases List.mem_cons.mp h with h | h
      · exact absurd h.symm e
      · exact wipe_at h
theorem wipe_wipe (vs : List Nat) (σ : L2.St) : wipe (wipe σ vs) vs = wipe σ vs := wipe_id fun _ h => wipe_at h
/-- the reading of a comprehension -/
theorem lc_read {W : WX} {ev : C → En → Sto → R D} {el : C} {own : List Nat} {t : T} {it : It} {ifs : Option C} {m : Bool} {tt : TT}
    (htt : ∀ σ H Q, (match ifs with
      | none => Q true H
      | some cc => tT g (fun _ _ _ _ => False) ev cc σ H Q) → tt σ H Q)
    (σ : L2.St) (H : Hp) (Q : VK) (h : ∃ rho e s, EnR g.fa rho H e σ ∧ StR g.fa rho H s ∧ Po g (fun c d H => W c d σ H) rho H (RV g.fa) ((evIt ev it e s).bind fun p s1 => (quiet (evComp ev s1.length el t ifs (wipeE e own) p.1 p.2.length 0 p.2 (s1 ++ [.lst true []]))).bind fun _ s2 => match s2[s1.length]? with
      | some (.lst _ xs) => if m then .ok (.ref s1.length) (s2.set s1.length (.lst false xs)) else .ok (.lst xs) (s2.take s1.length)
      | none => .fail) Q) : tLc (tI g W ev it) (tG g ev (Own own) t) tt (tE g (fun _ _ _ _ => False) ev el) own σ H Q := by
  obtain ⟨rho, e, st, E, S, h⟩ := h
  refine ⟨rho, e, st, E, S, Po.bind h fun p s1 rho1 H1 J _ E1 S1 R1 h1 => ?_⟩
  intro Dd nD
  obtain ⟨G, Y, walk, keep, item⟩ := R1
  have En1 := (E.mono E1).wipe own
  have E2 : Evo rho1 H1 (rho1 ++ [Dd]) (upd H1 Dd (.lst [])) := Evo.grown nD
  have S2 : StR g.fa (rho1 ++ [Dd]) (upd H1 Dd (.lst [])) (s1 ++ [.lst true []]) := S1.grown nD .nil rfl
  refine lc_it walk (fun i H => i ≤ p.2.length ∧ ∃ rho s, Evo (rho1 ++ [Dd]) (upd H1 Dd (.lst [])) rho H ∧ StR g.fa rho H s ∧
    Po g (fun c d H => W c d σ H) rho1 H1 (RV g.fa) ((quiet (evComp ev s1.length el t ifs (wipeE e own) p.1 p.2.length i (p.2.drop i) s)).bind fun _ s2 => match s2[s1.length]? with
      | some (.lst _ xs) => if m then .ok (.ref s1.length) (s2.set s1.length (.lst false xs)) else .ok (.lst xs) (s2.take s1.length)
      | none => .fail) Q) ⟨Nat.zero_le _, _, _, Evo.refl _ _, S2, h1⟩ ?_ ?_ ?_
  · -- the source stands
    rintro i H2 hi ⟨_, rho2, s2, E3, S3, h3⟩
    refine keep i rho2 H2 s2 (E2.trans E3) S3 ?_
    by_cases hl : i < p.2.length
    · rw [List.drop_eq_getElem_cons hl] at h3
      rw [List.getElem?_eq_getElem hl]
      simp only [evComp] at h3
      split at h3
      · assumption
      · exact h3.elim
    · rw [List.drop_eq_nil_of_le (by omega)] at h3
      rw [List.getElem?_eq_none (by omega)]
      simp only [evComp] at h3
      split at h3
      · assumption
      · exact h3.elim
  · -- a turn
    rintro i x H2 H3 hi ⟨_, rho2, s2, E3, S3, h3⟩ y
    rw [List.drop_eq_getElem_cons hi] at h3
    simp only [evComp] at h3
    split at h3
    case isFalse => exact h3.elim
    rename_i hc
    obtain ⟨E4, S4, R4⟩ := item i _ rho2 H2 s2 x H3 (List.getElem?_eq_getElem hi) (E2.trans E3) S3 hc y
    refine ⟨rho2, _, wipeE e own, s2, En1.mono ((E2.trans E3).trans E4), S4, R4, ?_⟩
    have E5 := E3.trans E4
    generalize ha : asg ev t p.2[i] (wipeE e own) s2 = ra at h3 ⊢
    cases ra with
    | fail => exact h3.elim
    | exc k s => exact h3.elim
    | ok e1 s3 =>
      intro rho3 H4 σ2 E6 S5 R5
      obtain ⟨En2, ow⟩ := R5
      refine ⟨by rw [show wipe σ2 own = _ from ow, wipe_wipe], ?_⟩
      have E7 := E5.trans E6
      -- behind the test
      have body : ∀ (rho4 : List Addr) (H5 : Hp) (s4 : Sto), Evo rho3 H4 rho4 H5 → StR g.fa rho4 H5 s4 → Po g (fun c d H => W c d σ H) rho1 H1 (RV g.fa) ((quiet ((ev el e1 s4).bind fun y s3 => match push s3 s1.length y with
          | some s4 => evComp ev s1.length el t ifs (wipeE e own) p.1 p.2.length (i + 1) (p.2.drop (i + 1)) s4
          | none => .fail)).bind fun _ s2 => match s2[s1.length]? with
          | some (.lst _ xs) => if m then .ok (.ref s1.length) (s2.set s1.length (.lst false xs)) else .ok (.lst xs) (s2.take s1.length)
          | none => .fail) Q → tE g (fun _ _ _ _ => False) ev el σ2 H5 fun y H4 => ∃ acc, H4 Dd = some (.lst acc) ∧ acc.length < sizeLine ∧ (i + 1 ≤ p.2.length ∧ ∃ rho s, Evo (rho1 ++ [Dd]) (upd H1 Dd (.lst [])) rho (upd H4 Dd (.lst (acc ++ [y]))) ∧ StR g.fa rho (upd H4 Dd (.lst (acc ++ [y]))) s ∧
            Po g (fun c d H => W c d σ H) rho1 H1 (RV g.fa) ((quiet (evComp ev s1.length el t ifs (wipeE e own) p.1 p.2.length (i + 1) (p.2.drop (i + 1)) s)).bind fun _ s2 => match s2[s1.length]? with
              | some (.lst _ xs) => if m then .ok (.ref s1.length) (s2.set s1.length (.lst false xs)) else .ok (.lst xs) (s2.take s1.length)
              | none => .fail) Q) := by
        intro rho4 H5 s4 E8 S6 h4
        refine ⟨rho4, e1, s4, En2.mono E8, S6, ?_⟩
        generalize hb : ev el e1 s4 = rb at h4 ⊢
        cases rb with
        | fail => exact h4.elim
        | exc k s => exact h4.elim
        | ok y s5 =>
          intro rho5 H6 yv E9 S7 R6
          have h4 : Po g (fun c d H => W c d σ H) rho1 H1 (RV g.fa) ((quiet (match push s5 s1.length y with
          | some s4 => evComp ev s1.length el t ifs (wipeE e own) p.1 p.2.length (i + 1) (p.2.drop (i + 1)) s4
          | none => .fail)).bind fun _ s2 => match s2[s1.length]? with
          | some (.lst _ xs) => if m then .ok (.ref s1.length) (s2.set s1.length (.lst false xs)) else .ok (.lst xs) (s2.take s1.length)
          | none => .fail) Q := h4
          cases hp : push s5 s1.length y with
          | none => rw [hp] at h4; exact h4.elim
          | some s6 =>
            rw [hp] at h4
            unfold push at hp
            split at hp
            · rename_i xs ex
              split at hp
              · rename_i hc2
                cases hp
                rw [Bool.and_eq_true] at hc2
                have E10 := (E7.trans E8).trans E9
                have hD : rho5[s1.length]? = some Dd := E10.at (by rw [← S1.len]; simp)
                obtain ⟨acc, a1, a2, a3⟩ := S7.at_ _ _ _ _ hD ex
                have hcl : cleans (xs ++ [y]) = true := by
                  have q : ∀ zs : List D, cleans zs = true → cleans (zs ++ [y]) = true := by
                    intro zs
                    induction zs with
                    | nil => intro _; show (clean y && true) = true; rw [hc2.1]; rfl
                    | cons z zs ih =>
                      intro hz
                      have hz := Bool.and_eq_true_iff.mp (show (clean z && cleans zs) = true from hz)
                      show (clean z && cleans (zs ++ [y])) = true
                      rw [hz.1, ih hz.2]; rfl
                  exact q xs a3
                obtain ⟨S8, E11⟩ := S7.wrote (lk' := true) hD ex (a2.append (.cons R6 .nil)) hcl
                exact ⟨acc, a1, by rw [a2.length, ← lim_eq]; exact of_decide_eq_true hc2.2, hi, _, _, E10.trans E11, S8, h4⟩
              · cases hp
            · cases hp
      have h3 : Po g (fun c d H => W c d σ H) rho1 H1 (RV g.fa) ((quiet ((match ifs with
        | none => Bw.R.ok true s3
        | some c => evT ev c e1 s3).bind fun b s2 => match b with
          | true => (ev el e1 s2).bind fun y s3 => match push s3 s1.length y with
            | some s4 => evComp ev s1.length el t ifs (wipeE e own) p.1 p.2.length (i + 1) (p.2.drop (i + 1)) s4
            | none => .fail
          | false => evComp ev s1.length el t ifs (wipeE e own) p.1 p.2.length (i + 1) (p.2.drop (i + 1)) s2)).bind fun _ s2 => match s2[s1.length]? with
          | some (.lst _ xs) => if m then .ok (.ref s1.length) (s2.set s1.length (.lst false xs)) else .ok (.lst xs) (s2.take s1.length)
          | none => .fail) Q := h3
      refine htt _ _ _ ?_
      cases ifs with
      | none =>
        exact iteT (body rho3 H4 s3 (Evo.refl _ _) S5 h3)
      | some cc =>
        refine ⟨rho3, e1, s3, En2, S5, ?_⟩
        simp only at h3
        generalize hb : evT ev cc e1 s3 = rb at h3 ⊢
        cases rb with
        | fail => exact h3.elim
        | exc k s => exact h3.elim
        | ok b s4 =>
          intro rho4 H5 b' E8 S6 R6
          subst R6
          cases b' with
          | true =>
            exact iteT (body rho4 H5 s4 E8 S6 h3)
          | false =>
            exact iteF ⟨hi, rho4, s4, E7.trans E8, S6, h3⟩
  · -- the end
    rintro H2 ⟨_, rho2, s2, E3, S3, h3⟩
    rw [List.drop_eq_nil_of_le (Nat.le_refl _)] at h3
    simp only [evComp] at h3
    split at h3
    case isFalse => exact h3.elim
    have h3 : Po g (fun c d H => W c d σ H) rho1 H1 (RV g.fa) (match s2[s1.length]? with
      | some (.lst _ xs) => if m then Bw.R.ok (.ref s1.length) (s2.set s1.length (.lst false xs)) else .ok (.lst xs) (s2.take s1.length)
      | none => .fail) Q := h3
    split at h3
    · rename_i lk xs ex
      have hD : rho2[s1.length]? = some Dd := E3.at (by rw [← S1.len]; simp)
      obtain ⟨acc, a1, a2, a3⟩ := S3.at_ _ _ _ _ hD ex
      obtain ⟨l, hl, hn⟩ := E3.ext
      cases m with
      | true =>
        rw [if_pos rfl] at h3
        exact h3 rho2 H2 (.ref Dd) (E2.trans E3) (S3.lock ex) (.ref hD)
      | false =>
        rw [if_neg Bool.false_ne_true] at h3
        have hr : rho2 = rho1 ++ ([Dd] ++ l) := by rw [hl, List.append_assoc]
        have E12 := E2.trans E3
        have S9 : StR g.fa rho1 H2 (s2.take s1.length) := by
          rw [← S1.len]
          rw [hr] at S3
          exact S3.cut
        refine h3 rho1 H2 (.ref Dd) ⟨⟨[], by simp, fun _ z => nomatch z⟩, fun a o q n => ?_, E12.there⟩ S9 (.lst a1 (S1.out nD) (a2.down (fun a z => by rw [hr]; exact List.mem_append_left _ z) a3))
        exact E12.same a o q n
    · exact h3.elim
/-- the walk of a comprehension's turns, what is wanted of its end being Z -/
theorem comp_it {ev : C → En → Sto → R D} {el : C} {own : List Nat} {t : T} {p : Src × List D} {ix : Nat} {Dd : Addr} {J : L2.It} {e : En} {s0 : Sto} {Z : R Unit → Prop} (z1 : ¬ Z .fail) (z2 : ∀ k s, ¬ Z (.exc k s)) (gs : Gs g rho H J p) (E : EnR g.fa rho H e σ) (hD : rho[ix]? = some Dd) (S : StR g.fa rho H s0)
    (h : Z (evComp ev ix el t none (wipeE e own) p.1 p.2.length 0 p.2 s0)) {Nx : Hp → Prop} (hN : ∀ rho' H' s, Evo rho H rho' H' → StR g.fa rho' H' s → Z (.ok () s) → Nx H') :
    ∃ Wt : Nat → Nat → Hp → Prop, (∃ m, Wt 0 m H) ∧ ∀ i m H2, Wt i m H2 → (J.stop i H2 ∧ Nx H2) ∨ (J.go i H2 ∧ ∃ On : Hp → Prop, (∀ G, On G → ∃ l, l < m ∧ Wt (i + 1) l G) ∧
      ∀ x G, J.yld i H2 x G → tG g ev (Own own) t x (wipe σ own) G fun τ G2 => wipe τ own = wipe σ own ∧ tYes τ G2 fun b G3 => if b = true then tE g (fun _ _ _ _ => False) ev el τ G3 fun y G4 => ∃ acc, G4 Dd = some (.lst acc) ∧ acc.length < sizeLine ∧ On (upd G4 Dd (.lst (acc ++ [y]))) else On G3) := by
  obtain ⟨G, Y, walk, keep, item⟩ := gs
  have En1 := E.wipe own
  refine ⟨fun i m H2 => m = p.2.length - i ∧ i ≤ p.2.length ∧ ∃ rho2 s2, Evo rho H rho2 H2 ∧ StR g.fa rho2 H2 s2 ∧ Z (evComp ev ix el t none (wipeE e own) p.1 p.2.length i (p.2.drop i) s2), ⟨p.2.length, by simp, Nat.zero_le _, rho, s0, Evo.refl _ _, S, h⟩, ?_⟩
  rintro i m H2 ⟨rfl, hi, rho2, s2, E3, S3, h3⟩
  have hG : G H2 := by
    refine keep i rho2 H2 s2 E3 S3 ?_
    by_cases hl : i < p.2.length
    · rw [List.drop_eq_getElem_cons hl] at h3
      rw [List.getElem?_eq_getElem hl]
      simp only [evComp] at h3
      split at h3
      · assumption
      · exact (z1 h3).elim
    · rw [List.drop_eq_nil_of_le (by omega)] at h3
      rw [List.getElem?_eq_none (by omega)]
      simp only [evComp] at h3
      split at h3
      · assumption
      · exact (z1 h3).elim
  by_cases hlt : i < p.2.length
  · refine .inr ⟨walk.goes i H2 hlt hG, fun Hn => i + 1 ≤ p.2.length ∧ ∃ rho2 s2, Evo rho H rho2 Hn ∧ StR g.fa rho2 Hn s2 ∧ Z (evComp ev ix el t none (wipeE e own) p.1 p.2.length (i + 1) (p.2.drop (i + 1)) s2), fun G' q => ⟨p.2.length - (i + 1), by omega, rfl, q⟩, fun x H3 y => ?_⟩
    rw [List.drop_eq_getElem_cons hlt] at h3
    simp only [evComp] at h3
    split at h3
    case isFalse => exact (z1 h3).elim
    rename_i hc
    obtain ⟨E4, S4, R4⟩ := item i _ rho2 H2 s2 x H3 (List.getElem?_eq_getElem hlt) E3 S3 hc (walk.yields i H2 x H3 hlt hG y)
    refine ⟨rho2, _, wipeE e own, s2, En1.mono (E3.trans E4), S4, R4, ?_⟩
    generalize asg ev t p.2[i] (wipeE e own) s2 = ra at h3 ⊢
    cases ra with
    | fail => exact (z1 h3).elim
    | exc k s => exact (z1 h3).elim
    | ok e1 s3 =>
      intro rho3 H4 σ2 E6 S5 R5
      obtain ⟨En2, ow⟩ := R5
      refine ⟨by rw [show wipe σ2 own = _ from ow, wipe_wipe], ?_⟩
      have h3 : Z ((ev el e1 s3).bind fun y s3 => match push s3 ix y with
          | some s4 => evComp ev ix el t none (wipeE e own) p.1 p.2.length (i + 1) (p.2.drop (i + 1)) s4
          | none => .fail) := h3
      unfold tYes; dsimp only
      try rw [if_pos rfl]
      refine ⟨rho3, e1, s3, En2, S5, ?_⟩
      generalize ev el e1 s3 = rb at h3 ⊢
      cases rb with
      | fail => exact (z1 h3).elim
      | exc k s => exact (z2 _ _ h3).elim
      | ok yv s5 =>
        intro rho5 H6 yv2 E9 S7 R6
        have h3 : Z (match push s5 ix yv with
          | some s4 => evComp ev ix el t none (wipeE e own) p.1 p.2.length (i + 1) (p.2.drop (i + 1)) s4
          | none => .fail) := h3
        cases hp : push s5 ix yv with
        | none => rw [hp] at h3; exact (z1 h3).elim
        | some s6 =>
          rw [hp] at h3
          unfold push at hp
          split at hp
          · rename_i xs ex
            split at hp
            · rename_i hc2
              cases hp
              rw [Bool.and_eq_true] at hc2
              have E10 := ((E3.trans E4).trans E6).trans E9
              have hD2 := E10.at hD
              obtain ⟨acc, a1, a2, a3⟩ := S7.at_ _ _ _ _ hD2 ex
              have hcl : cleans (xs ++ [yv]) = true := by
                have q : ∀ zs : List D, cleans zs = true → cleans (zs ++ [yv]) = true := by
                  intro zs
                  induction zs with
                  | nil => intro _; show (clean yv && true) = true; rw [hc2.1]; rfl
                  | cons z zs ih =>
                    intro hz
                    have hz := Bool.and_eq_true_iff.mp (show (clean z && cleans zs) = true from hz)
                    show (clean z && cleans (zs ++ [yv])) = true
                    rw [hz.1, ih hz.2]; rfl
                exact q xs a3
              obtain ⟨S8, E11⟩ := S7.wrote (lk' := true) hD2 ex (a2.append (.cons R6 .nil)) hcl
              exact ⟨acc, a1, by rw [a2.length, ← lim_eq]; exact of_decide_eq_true hc2.2, hlt, _, _, E10.trans E11, S8, h3⟩
            · cases hp
          · cases hp
  · have ei : i = p.2.length := by omega
    subst ei
    rw [List.drop_eq_nil_of_le (Nat.le_refl _)] at h3
    simp only [evComp] at h3
    split at h3
    case isFalse => exact (z1 h3).elim
    exact .inl ⟨walk.stops H2 hG, hN rho2 H2 s2 E3 S3 h3⟩
/-- the reading of a comprehension of two fors -/
theorem lc2_read {W : WX} {ev : C → En → Sto → R D} {el : C} {own own1 : List Nat} {t t1 : T} {it it1 : It} {m : Bool}
    (σ : L2.St) (H : Hp) (Q : VK) (h : ∃ rho e s, EnR g.fa rho H e σ ∧ StR g.fa rho H s ∧ Po g (fun c d H => W c d σ H) rho H (RV g.fa) ((evIt ev it e s).bind fun p s1 => (quiet (evComp2 ev s1.length el t own1 t1 it1 (wipeE e own) p.1 p.2.length 0 p.2 (s1 ++ [.lst true []]))).bind fun _ s2 => match s2[s1.length]? with
      | some (.lst _ xs) => if m then .ok (.ref s1.length) (s2.set s1.length (.lst false xs)) else .ok (.lst xs) (s2.take s1.length)
      | none => .fail) Q) : tLc2 (tI g W ev it) (tG g ev (Own own) t) tYes (tI g (fun _ _ _ _ => False) ev it1) (tG g ev (Own own1) t1) tYes (tE g (fun _ _ _ _ => False) ev el) own own1 σ H Q := by
  obtain ⟨rho, e, st, E, S, h⟩ := h
  refine ⟨rho, e, st, E, S, Po.bind h fun p s1 rho1 H1 J _ E1 S1 R1 h1 => ?_⟩
  intro Dd nD
  obtain ⟨G, Y, walk, keep, item⟩ := R1
  have En1 := (E.mono E1).wipe own
  have E2 : Evo rho1 H1 (rho1 ++ [Dd]) (upd H1 Dd (.lst [])) := Evo.grown nD
  have S2 : StR g.fa (rho1 ++ [Dd]) (upd H1 Dd (.lst [])) (s1 ++ [.lst true []]) := S1.grown nD .nil rfl
  have hD0 : (rho1 ++ [Dd])[s1.length]? = some Dd := by rw [← S1.len]; simp
  obtain ⟨Z, hZ⟩ : ∃ Z : R Unit → Prop, Z = fun r => Po g (fun c d H => W c d σ H) rho1 H1 (RV g.fa) ((quiet r).bind fun _ s2 => match s2[s1.length]? with
      | some (.lst _ xs) => if m then .ok (.ref s1.length) (s2.set s1.length (.lst false xs)) else .ok (.lst xs) (s2.take s1.length)
      | none => .fail) Q := ⟨_, rfl⟩
  have z1 : ¬ Z .fail := by rw [hZ]; exact fun z => z
  have z2 : ∀ k s, ¬ Z (.exc k s) := by rw [hZ]; exact fun _ _ z => z
  have h1 : Z (evComp2 ev s1.length el t own1 t1 it1 (wipeE e own) p.1 p.2.length 0 p.2 (s1 ++ [.lst true []])) := by rw [hZ]; exact h1
  have last : ∀ rho2 H2 s2, Evo (rho1 ++ [Dd]) (upd H1 Dd (.lst [])) rho2 H2 → StR g.fa rho2 H2 s2 → Z (.ok () s2) → Q (.ref Dd) H2 := by
    intro rho2 H2 s2 E3 S3 h3
    rw [hZ] at h3
    have h3 : Po g (fun c d H => W c d σ H) rho1 H1 (RV g.fa) (match s2[s1.length]? with
      | some (.lst _ xs) => if m then Bw.R.ok (.ref s1.length) (s2.set s1.length (.lst false xs)) else .ok (.lst xs) (s2.take s1.length)
      | none => .fail) Q := h3
    split at h3
    · rename_i lk xs ex
      have hD := E3.at hD0
      obtain ⟨acc, a1, a2, a3⟩ := S3.at_ _ _ _ _ hD ex
      obtain ⟨l, hl, hn⟩ := E3.ext
      cases m with
      | true =>
        rw [if_pos rfl] at h3
        exact h3 rho2 H2 (.ref Dd) (E2.trans E3) (S3.lock ex) (.ref hD)
      | false =>
        rw [if_neg Bool.false_ne_true] at h3
        have hr : rho2 = rho1 ++ ([Dd] ++ l) := by rw [hl, List.append_assoc]
        have E12 := E2.trans E3
        have S9 : StR g.fa rho1 H2 (s2.take s1.length) := by
          rw [← S1.len]
          rw [hr] at S3
          exact S3.cut
        refine h3 rho1 H2 (.ref Dd) ⟨⟨[], by simp, fun _ z => nomatch z⟩, fun a o q n => ?_, E12.there⟩ S9 (.lst a1 (S1.out nD) (a2.down (fun a z => by rw [hr]; exact List.mem_append_left _ z) a3))
        exact E12.same a o q n
    · exact h3.elim
  clear hZ
  refine ⟨fun i m H2 => m = p.2.length - i ∧ i ≤ p.2.length ∧ ∃ rho2 s2, Evo (rho1 ++ [Dd]) (upd H1 Dd (.lst [])) rho2 H2 ∧ StR g.fa rho2 H2 s2 ∧ Z (evComp2 ev s1.length el t own1 t1 it1 (wipeE e own) p.1 p.2.length i (p.2.drop i) s2), ⟨p.2.length, by simp, Nat.zero_le _, _, _, Evo.refl _ _, S2, h1⟩, ?_⟩
  rintro i m H2 ⟨rfl, hi, rho2, s2, E3, S3, h3⟩
  have hG : G H2 := by
    refine keep i rho2 H2 s2 (E2.trans E3) S3 ?_
    by_cases hl : i < p.2.length
    · rw [List.drop_eq_getElem_cons hl] at h3
      rw [List.getElem?_eq_getElem hl]
      simp only [evComp2] at h3
      split at h3
      · assumption
      · exact (z1 h3).elim
    · rw [List.drop_eq_nil_of_le (by omega)] at h3
      rw [List.getElem?_eq_none (by omega)]
      simp only [evComp2] at h3
      split at h3
      · assumption
      · exact (z1 h3).elim
  by_cases hlt : i < p.2.length
  · refine .inr ⟨walk.goes i H2 hlt hG, fun Hn => i + 1 ≤ p.2.length ∧ ∃ rho2 s2, Evo (rho1 ++ [Dd]) (upd H1 Dd (.lst [])) rho2 Hn ∧ StR g.fa rho2 Hn s2 ∧ Z (evComp2 ev s1.length el t own1 t1 it1 (wipeE e own) p.1 p.2.length (i + 1) (p.2.drop (i + 1)) s2), fun G' q => ⟨p.2.length - (i + 1), by omega, rfl, q⟩, fun x H3 y => ?_⟩
    rw [List.drop_eq_getElem_cons hlt] at h3
    simp only [evComp2] at h3
    split at h3
    case isFalse => exact (z1 h3).elim
    rename_i hc
    obtain ⟨E4, S4, R4⟩ := item i _ rho2 H2 s2 x H3 (List.getElem?_eq_getElem hlt) (E2.trans E3) S3 hc (walk.yields i H2 x H3 hlt hG y)
    refine ⟨rho2, _, wipeE e own, s2, En1.mono ((E2.trans E3).trans E4), S4, R4, ?_⟩
    generalize asg ev t p.2[i] (wipeE e own) s2 = ra at h3 ⊢
    cases ra with
    | fail => exact (z1 h3).elim
    | exc k s => exact (z1 h3).elim
    | ok e1 s3 =>
      intro rho3 H4 σ2 E6 S5 R5
      obtain ⟨En2, ow⟩ := R5
      refine ⟨by rw [show wipe σ2 own = _ from ow, wipe_wipe], ?_⟩
      have h3 : Z ((evIt ev it1 e1 s3).bind fun p1 s2 => (evComp ev s1.length el t1 none (wipeE e1 own1) p1.1 p1.2.length 0 p1.2 s2).bind fun _ s3 => evComp2 ev s1.length el t own1 t1 it1 (wipeE e own) p.1 p.2.length (i + 1) (p.2.drop (i + 1)) s3) := h3
      unfold tYes; dsimp only
      try rw [if_pos rfl]
      refine ⟨rho3, e1, s3, En2, S5, ?_⟩
      generalize evIt ev it1 e1 s3 = rb at h3 ⊢
      cases rb with
      | fail => exact (z1 h3).elim
      | exc k s => exact (z2 _ _ h3).elim
      | ok p1 s4 =>
        intro rho4 H5 J1 E7 S6 R6
        have E8 := ((E3.trans E4).trans E6).trans E7
        refine comp_it (Z := fun r => Z (r.bind fun _ s3 => evComp2 ev s1.length el t own1 t1 it1 (wipeE e own) p.1 p.2.length (i + 1) (p.2.drop (i + 1)) s3)) z1 (fun k s => z2 k s) R6 (En2.mono E7) (E8.at hD0) S6 h3 fun rho' H' s E9 S9 h9 => ?_
        exact ⟨hlt, rho', s, E8.trans E9, S9, h9⟩
  · have ei : i = p.2.length := by omega
    subst ei
    rw [List.drop_eq_nil_of_le (Nat.le_refl _)] at h3
    simp only [evComp2] at h3
    split at h3
    case isFalse => exact (z1 h3).elim
    exact .inl ⟨walk.stops H2 hG, last rho2 H2 s2 E3 S3 h3⟩
end
end Bw

set_option Elab.async false
set_option linter.all false
set_option maxRecDepth 100000
set_option maxHeartbeats 4000000
/-! Bw: sets of numbers, made by a comprehension and sorted at once -/
namespace Bw
open PySem PySem.Spec PyProof.Rows L2
section
variable {X : Cx} {pins : List (Addr × Obj)} {σ : L2.St} {H : Hp} {sh : Shared}
abbrev grow (S : Int → Bool) (k : Int) : Int → Bool := fun j => S j || decide (j = k)
abbrev grown (S : Int → Bool) (k : Int) (n : Nat) : Nat := if S k = true then n else n + 1
/-- one more number -/
theorem put_int {w0 : Value → Shared → Prop} {D : Addr} {S : Int → Bool} {n : Nat} {i : Int} {tk : Tok} {Qv : Value → Shared → Prop} (I : Inv X pins σ H sh) (at_ : H D = some (SetO X.w D S n)) (few : n + 1 < scanBound)
    (on : ∀ s2, Inv X pins σ (upd H D (SetO X.w D (grow S i) (grown S i n))) s2 → Qv .none s2) : wpAny (model X.prog X.w) X.A (call (.builtin "set.add") [.ref D, .int i tk]) Qv w0 sh := by
  refine setR_add (setO_get I at_) few fun hp same now => on _ ?_
  obtain ⟨o, z⟩ : ∃ o, hp.get? D = some o := by
    obtain ⟨o, _, _, _, z, _⟩ := id now
    exact ⟨o, z⟩
  exact I.write (e := D) (t' := sh.toks + 1) (by rw [at_]; trivial) (Or.inl rfl) (fun c v hc hv => (same.2 c hc).trans hv) ⟨o, z⟩ (setO_new now)
/-- what is asked of {e for t in it}, e a number -/
def tSi (w : World) (wi : TI) (gt : TG) (te : TE) (own : List Nat) : TE := fun σ H Q => wi σ H fun J H1 => ∀ D : Addr, H1 D = none →
  ∃ Wt : Nat → Nat → Hp → Prop, (∃ m, Wt 0 m (upd H1 D (SetO w D (fun _ => false) 0))) ∧
    ∀ i m H2, Wt i m H2 → (J.stop i H2 ∧ Q (.ref D) H2) ∨
      (J.go i H2 ∧ ∃ On : Hp → Prop, (∀ G, On G → ∃ l, l < m ∧ Wt (i + 1) l G) ∧
        ∀ x G, J.yld i H2 x G → gt x (wipe σ own) G fun τ G2 => wipe τ own = wipe σ own ∧
          te τ G2 fun y G3 => ∃ (k : Int) (S : Int → Bool) (n : Nat), y = .int k ∧ G3 D = some (SetO w D S n) ∧ n + 1 < scanBound ∧ On (upd G3 D (SetO w D (grow S k) (grown S k n))))
abbrev empS (w : World) : Obj := { cls := .type "set", dict := none, data := .set #[] 0 (.fresh 0 0 (!w.params.followText "set-order")) }
theorem pe_si {elt tg iter : Expr} {scope : Scope} {own : List (PySem.Str × Nat)} {pos : Pos} {wi : TI} {gt : TG} {te : TE} (calm : X.calm = true) (nd : X.N.Nodup) (hi : PI X tg iter wi) (ok : BlkOk X.N X.env.scope scope own)
    (hg : ∀ (s : Shared) (H : Hp) (C : Addr) (cl : List (PySem.Str × Addr)) (fp : List Addr), PG (X.blk s H scope (compEnvC scope cl C X.env) fp) tg gt)
    (he : ∀ (s : Shared) (H : Hp) (C : Addr) (cl : List (PySem.Str × Addr)) (fp : List Addr), PE (X.blk s H scope (compEnvC scope cl C X.env) fp) elt te) (pl : ∀ x, foldedSetIterable iter X.env x = pure x) :
    PE X (.SetComp elt [⟨tg, iter, [], 0⟩] scope pos) (tSi X.w wi gt te (own.map (·.2))) := by
  refine ⟨fun pins sh σ H Q I ask => ?_⟩
  rw [PpSet.eval_SetComp]
  have cells : ∀ y ∈ scope.names, y.2 = .free → ∃ c, X.env.cells.lookup y.1 = some c := fun y hy ef => (ok.free y hy ef).elim (fun k => I.ok.has _ (.inl k)) (fun k => I.ok.has _ (.inr k))
  refine wpAny_comprehension_free (use := none) rfl pl (closure_ok cells) ok.kind (fun y hy ef => by rw [ok.uniq y hy, ef]) (thn (hi.run pins sh σ H _ I ask) fun _ _ got => thn got fun _ s2 h2 => ?_)
  obtain ⟨it, fp, tn, J, H2, rfl, I2, T, st2, f2, q⟩ := h2
  refine PpSet.newSet_ok (newEnv_comp ?_)
  obtain ⟨D, eD⟩ : ∃ D, D = s2.heap.objs.size := ⟨_, rfl⟩
  rw [← eD]
  have nD : H2 D = none := by rw [eD]; exact I2.hok.fresh (Nat.le_refl _)
  obtain ⟨Wt, ⟨m0, start⟩, turn⟩ := q D nD
  obtain ⟨s3, e3⟩ : ∃ s3 : Shared, s3 = { s2 with heap := s2.heap.push (empS X.w) } := ⟨_, rfl⟩
  have hh3 : s3.heap = s2.heap.push (empS X.w) := by rw [e3]
  obtain ⟨H3, eH3⟩ : ∃ H3, H3 = upd H2 D (SetO X.w D (fun _ => false) 0) := ⟨_, rfl⟩
  have I3 : Inv X pins σ H3 s3 := by
    rw [e3, eH3, eD]
    exact I2.laid (t' := s2.toks) (fun c o g => Heap.get?_push_of_some _ g) (Nat.le_refl _) (setO_new (setR_fresh X.w))
  rw [← eH3] at start
  have below : ∀ b ∈ fp, b < s2.heap.objs.size := fun b hb => let ⟨_, g, _⟩ := T.obj _ _ st2 b hb; Heap.lt_size g
  have f3 : ∀ b ∈ fp, FpOk X pins H3 b ∧ b < s3.heap.objs.size := by
    intro b hb
    have lt := below b hb
    have ne : b ≠ D := by rw [eD]; exact Nat.ne_of_lt lt
    exact ⟨⟨by rw [eH3, upd_ne ne]; exact (f2 b hb).1, (f2 b hb).2⟩, by rw [hh3, Heap.size_push]; exact Nat.lt_succ_of_lt lt⟩
  have st3 : tn 0 s3.heap := T.keep _ _ _ st2 fun c _ o g => by rw [hh3]; exact Heap.get?_push_of_some _ g
  have I4 := block_start I3 ok nd f3
  obtain ⟨cl, ecl⟩ : ∃ cl, cl = cellsFrom (s3.heap.objs.size + 1) scope.names (cloFrom X.env.cells scope.names []) := ⟨_, rfl⟩
  rw [← ecl] at I4
  have pg := hg s3 H3 s3.heap.objs.size cl fp
  have pe := he s3 H3 s3.heap.objs.size cl fp
  obtain ⟨L, eL⟩ : ∃ L, L = s3.heap.objs.size := ⟨_, rfl⟩
  obtain ⟨ce, ece⟩ : ∃ ce, ce = compEnvC scope cl s3.heap.objs.size X.env := ⟨_, rfl⟩
  have lce : ce.locals = L := by rw [ece, eL]; rfl
  rw [← ece] at I4 pg pe
  obtain ⟨s4, e4⟩ : ∃ s4 : Shared, s4 = { s3 with heap := pushCells (s3.heap.push { cls := .type "dict", data := .dict #[] }) scope.names } := ⟨_, rfl⟩
  have st4 : tn 0 s4.heap := T.keep _ _ _ st3 fun c _ o g => by rw [e4]; exact pushCells_keeps _ _ _ _ (Heap.get?_push_of_some _ g)
  rw [← e4] at I4
  have free3 : ∀ b ∈ fp, H3 b = none := fun b hb => (f3 b hb).1.1
  have stat : ∀ {τ : L2.St} {G : Hp} {s' : Shared}, Inv (X.blk s3 H3 scope ce fp) [] τ G s' → (∀ b ∈ fp, G b = none) → ∀ b ∈ fp, FpOk (X.blk s3 H3 scope ce fp) [] G b := fun J5 nn b hb =>
    ⟨nn b hb, (J5.ok.exf b hb).1, J5.ok.exfs b hb, .inl hb, fun x c g => (J5.ok.exf b hb).2 x c g, fun p hp => (by simp at hp)⟩
  have post : ∀ (s6 : Shared) (m : Str → Option Value) (G : Hp), Inv X pins σ G s6 → Q (.ref D) G → s6.heap.Ns L m → FpOk X pins G L → compPost (model X.prog X.w) X.A X.xe none (EP X pins σ Q) (.ref D) L (.ok .next) s6 := fun s6 m G I6 qq ns fpo =>
    ⟨m, ns, fun h'' sb => let ⟨f0, f1, f2, f3, f4, f5⟩ := fpo; ⟨.ref D, G, I6.turned (t' := s6.toks) (fun c o hc g => (sb.2 c hc).trans g) f0 f1 f3 f4 f5, rfl, qq⟩⟩
  have loop : codeAny (model X.prog X.w) X.A (.compLoop (.SetComp elt [⟨tg, iter, [], 0⟩] scope pos) 0 (.ref it) (.ref D) ce) (compPost (model X.prog X.w) X.A X.xe none (EP X pins σ Q) (.ref D) L) s4 := by
    refine PpSet.compLoopS_any (fun n s' => ∃ i G, Inv (X.blk s3 H3 scope ce fp) [] (wipe σ (own.map (·.2))) G s' ∧ tn i s'.heap ∧ (∀ b ∈ fp, G b = none) ∧ Wt i n G) ?_ m0 ⟨0, H3, I4, st4, free3, start⟩
    rintro n s5 ⟨i, H5, I5, st5, n5, w5⟩
    rcases turn i n H5 w5 with ⟨stop, qq⟩ | ⟨go, On, hOn, step⟩
    · refine thnF (T.done (X.blk s3 H3 scope ce fp) rfl rfl rfl calm i [] s5 _ H5 (fun _ _ => False) I5 (stat I5 n5) st5 stop) fun r s6 ⟨er, I6⟩ => ?_
      subst er
      have I7 : Inv X pins σ H5 s6 := I3.call' (ch := fp) I6.os I6.base I6.hok I6.bare fun b hb => let z := (f3 b hb).1.2; ⟨z.2.2.1, z.1, z.2.2.2.1, z.2.2.2.2⟩
      have fr : H5 L = none := by
        have z : H5 ce.locals = none := I6.free
        rwa [lce] at z
      obtain ⟨m, ns, _⟩ := I6.loc
      have ns : s6.heap.Ns ce.locals m := ns
      rw [lce] at ns
      exact post s6 m H5 I7 qq ns (I3.fpOk (by rw [eL]; exact Nat.le_refl _) fr)
    · refine thnF (T.item (X.blk s3 H3 scope ce fp) rfl rfl rfl calm i [] s5 _ H5 (fun _ _ => False) I5 (stat I5 n5) st5 go) fun r s6 ⟨u, er, h6⟩ => ?_
      subst er
      refine thnF h6 fun _ s7 ⟨x, H7, I7, r7, y7, st7, n7⟩ => ?_
      refine thnF (pg.run _ s7 _ H7 x u _ (I7.pinned (stat I7 n7) (T.obj _ _ st7)) r7 (step x H7 y7)) fun _ s8 ⟨τ, H8, I8, same, q8⟩ => ?_
      show wpAny _ _ (forIn [] true _) _ _ s8
      refine wpAny_pure ?_
      show wpAny _ _ (eval elt ce) _ _ s8
      refine thnF (pe.run _ s8 τ H8 _ I8 q8) fun z s10 ⟨yv, H10, I10, r10, k, S0, n0, ey, atD, few, on⟩ => ?_
      subst ey
      obtain ⟨tk, rfl⟩ := r10
      refine put_int (X := X.blk s3 H3 scope ce fp) I10 atD few fun s11 I11 => ?_
      obtain ⟨l, lt, w'⟩ := hOn _ on
      have pinned : ∀ b ∈ fp, ∀ o, s7.heap.get? b = some o → s11.heap.get? b = some o ∧ upd H10 D (SetO X.w D (grow S0 k) (grown S0 k n0)) b = none := fun b hb o g => let z := I11.pin (b, o) (List.mem_append_right _ (List.mem_append_right _ (mem_pinsAt hb g))); ⟨z.1, z.2.1⟩
      have len : (wipe σ (own.map (·.2))).length = τ.length := by rw [← same, wipe_length]
      refine ⟨l, lt, i + 1, _, (I11.unpinned (pins := [])).weak len (fun j v g => (wipe_some (by rw [← same] at g; exact g)).1), T.keep _ _ _ st7 fun b hb o g => (pinned b hb o g).1, fun b hb => ?_, w'⟩
      obtain ⟨o, g, _⟩ := T.obj _ _ st7 b hb
      exact (pinned b hb o g).2
  have go := PpSet.codeAny_compStart_set loop (T.self X.A 0 _ _ _ st4 loop)
  subst ece ecl e4 eL e3
  exact go
end
section
variable {g : Gd} {c : Cfg} {N : List Str} {cf : CF} {j : Nat} {X : Cx} {sc : Scope} {W : WX} {rho rho' : List Addr} {H H' : Hp} {s : Sto} {σ : L2.St} {Q : VK}
/-- a set that is not in the store grows: nothing else is moved -/
theorem ext_ne {D a : Addr} {o u : HO} (hD : H D = some o) (ha : H a = some u) (ne : o ≠ u) : a ≠ D := fun z => by
  rw [z, hD] at ha
  exact ne (Option.some.inj ha)
theorem setO_tup {w : World} {a : Addr} {S : Int → Bool} {n : Nat} {xs : List V} : SetO w a S n ≠ .tup xs := fun z => by
  have z : HO.ext _ = HO.tup xs := z
  cases z
theorem setO_lst {w : World} {a : Addr} {S : Int → Bool} {n : Nat} {xs : List V} : SetO w a S n ≠ .lst xs := fun z => by
  have z : HO.ext _ = HO.lst xs := z
  cases z
theorem setO_frz {w : World} {a : Addr} {S : Int → Bool} {n : Nat} {o : Obj} {u : HO} : SetO w a S n ≠ .frz o u := fun z => by
  have z : HO.ext _ = HO.frz o u := z
  cases z
section
variable {D : Addr} {w : World} {S : Int → Bool} {n : Nat} {o : HO}
mutual
theorem RV.skip (hD : H D = some (SetO w D S n)) : ∀ {v : V} {d : Bw.D}, RV g.fa rho H v d → RV g.fa rho (upd H D o) v d
  | _, _, .non => .non
  | _, _, .bl b => .bl b
  | _, _, .int i => .int i
  | _, _, .str x => .str x
  | _, _, .ref h => .ref h
  | _, _, .tup h nn r => .tup (by rw [upd_ne (ext_ne hD h setO_tup)]; exact h) nn (RVs.skip hD r)
  | _, _, .lst h nn r => .lst (by rw [upd_ne (ext_ne hD h setO_lst)]; exact h) nn (RVs.skip hD r)
  | _, _, .scr h nn => .scr (by rw [upd_ne (ext_ne hD h setO_frz)]; exact h) nn
  | _, _, .fn h => .fn h
theorem RVs.skip (hD : H D = some (SetO w D S n)) : ∀ {vs : List V} {ds : List Bw.D}, RVs g.fa rho H vs ds → RVs g.fa rho (upd H D o) vs ds
  | _, _, .nil => .nil
  | _, _, .cons a b => .cons (RV.skip hD a) (RVs.skip hD b)
end
theorem StR.skip (hD : H D = Option.some (SetO w D S n)) (Z : StR g.fa rho H s) : StR g.fa rho (upd H D o) s := by
  refine ⟨Z.len, Z.nd, fun i a lk ds h q => ?_⟩
  obtain ⟨xs, h1, h2, h3⟩ := Z.at_ i a lk ds h q
  exact ⟨xs, by rw [upd_ne (ext_ne hD h1 setO_lst)]; exact h1, h2.skip hD, h3⟩
/-- from ahead of the set's making -/
theorem Evo.skip {r0 : List Addr} {H0 : Hp} (n0 : H0 D = none) (e : Evo r0 H0 rho H) : Evo r0 H0 rho (upd H D o) := by
  refine ⟨e.ext, fun a u h nn => ?_, fun a h => ?_⟩
  · rw [upd_ne (ne_of_none h n0)]
    exact e.same a u h nn
  · by_cases z : a = D
    · rw [z]; exact n0
    · rw [upd_ne z] at h
      exact e.there a h
end
theorem insU_mem {x z : Int} : ∀ {l : List Int}, z ∈ insU x l ↔ z = x ∨ z ∈ l
  | [] => by simp [insU]
  | y :: ys => by
    unfold insU
    split
    · simp
    · split
      · rename_i h1 h2
        subst h2
        simp
      · rw [List.mem_cons, insU_mem, List.mem_cons]
        constructor
        · rintro (h | h | h)
          · exact .inr (.inl h)
          · exact .inl h
          · exact .inr (.inr h)
        · rintro (h | h | h)
          · exact .inr (.inl h)
          · exact .inl h
          · exact .inr (.inr h)
theorem insU_pw (x : Int) : ∀ l : List Int, l.Pairwise (· < ·) → (insU x l).Pairwise (· < ·)
  | [], _ => List.pairwise_singleton _ _
  | y :: ys, h => by
    unfold insU
    have h2 := List.pairwise_cons.mp h
    split
    · rename_i hx
      refine List.pairwise_cons.mpr ⟨fun z hz => ?_, h⟩
      rcases List.mem_cons.mp hz with rfl | hz
      · exact hx
      · exact Int.lt_trans hx (h2.1 z hz)
    · split
      · exact h
      · rename_i h3 h4
        refine List.pairwise_cons.mpr ⟨fun z hz => ?_, insU_pw x ys h2.2⟩
        rcases insU_mem.mp hz with rfl | hz
        · omega
        · exact h2.1 z hz
theorem srtU_mem {z : Int} : ∀ {l : List Int}, z ∈ srtU l ↔ z ∈ l
  | [] => Iff.rfl
  | x :: xs => by
    show z ∈ insU x (srtU xs) ↔ _
    rw [insU_mem, srtU_mem, List.mem_cons]
theorem srtU_pw : ∀ l : List Int, (srtU l).Pairwise (· < ·)
  | [] => List.Pairwise.nil
  | x :: xs => insU_pw x _ (srtU_pw xs)
theorem insU_len (x : Int) : ∀ l : List Int, l.Pairwise (· < ·) → (insU x l).length = if x ∈ l then l.length else l.length + 1
  | [], _ => rfl
  | y :: ys, h => by
    have h2 := List.pairwise_cons.mp h
    unfold insU
    split
    · rename_i hx
      rw [if_neg]
      · rfl
      · intro z
        rcases List.mem_cons.mp z with rfl | z
        · omega
        · have := h2.1 x z
          omega
    · split
      · rename_i h3 h4
        subst h4
        rw [if_pos (List.mem_cons_self ..)]
      · rename_i h3 h4
        rw [List.length_cons, insU_len x ys h2.2]
        by_cases hm : x ∈ ys
        · rw [if_pos hm, if_pos (List.mem_cons_of_mem _ hm), List.length_cons]
        · rw [if_neg hm, if_neg, List.length_cons]
          intro z
          rcases List.mem_cons.mp z with e | z
          · exact h4 e
          · exact hm z
theorem srtU_le : ∀ l : List Int, (srtU l).length ≤ l.length
  | [] => Nat.le_refl _
  | x :: xs => by
    show (insU x (srtU xs)).length ≤ _
    rw [insU_len x _ (srtU_pw xs), List.length_cons]
    have := srtU_le xs
    split <;> omega
theorem asc_eq : ∀ {l m : List Int}, l.Pairwise (· < ·) → m.Pairwise (· < ·) → (∀ z, z ∈ l ↔ z ∈ m) → l = m
  | [], [], _, _, _ => rfl
  | [], y :: ys, _, _, h => by have := (h y).mpr (List.mem_cons_self ..); cases this
  | x :: xs, [], _, _, h => by have := (h x).mp (List.mem_cons_self ..); cases this
  | x :: xs, y :: ys, h1, h2, h => by
    have a := List.pairwise_cons.mp h1
    have b := List.pairwise_cons.mp h2
    have e : x = y := by
      rcases List.mem_cons.mp ((h x).mp (List.mem_cons_self ..)) with e | e
      · exact e
      · rcases List.mem_cons.mp ((h y).mpr (List.mem_cons_self ..)) with e' | e'
        · exact e'.symm
        · have := a.1 y e'
          have := b.1 x e
          omega
    subst e
    rw [asc_eq a.2 b.2 fun z => ?_]
    constructor
    · intro hz
      rcases List.mem_cons.mp ((h z).mp (List.mem_cons_of_mem _ hz)) with e | e
      · have := a.1 z hz
        omega
      · exact e
    · intro hz
      rcases List.mem_cons.mp ((h z).mpr (List.mem_cons_of_mem _ hz)) with e | e
      · have := b.1 z hz
        omega
      · exact e
/-- the reading of sorted({e for t in it}) -/
theorem ss_read {W : WX} {ev : C → En → Sto → R D} {el : C} {own : List Nat} {t : T} {it : It} {σ : L2.St} {H : Hp} {Q : VK}
    (h : ∃ rho e s, EnR g.fa rho H e σ ∧ StR g.fa rho H s ∧ Po g (fun c d H => W c d σ H) rho H (RV g.fa) ((evIt ev it e s).bind fun p s1 => (quiet (evSC ev el t (wipeE e own) p.1 p.2.length 0 p.2 [] s1)).bind fun acc s2 => if (srtU acc).length < 64 then mkL false ((srtU acc).map .int) s2 else .fail) Q) :
    tCB (rSortedSet X.w) (tCons (tSi X.w (tI g W ev it) (tG g ev (Own own) t) (tE g (fun _ _ _ _ => False) ev el) own) tNil) σ H Q := by
  obtain ⟨rho, e, st, E, S, h⟩ := h
  refine ⟨rho, e, st, E, S, Po.bind h fun p s1 rho1 H1 J _ E1 S1 R1 h1 => ?_⟩
  intro D nD
  obtain ⟨G, Y, walk, keep, item⟩ := R1
  have En1 := (E.mono E1).wipe own
  refine ⟨fun i m H => m = p.2.length - i ∧ i ≤ p.2.length ∧ ∃ rho s acc, Evo rho1 H1 rho H ∧ StR g.fa rho H s ∧ D ∉ rho ∧ H D = some (SetO X.w D (fun k => decide (k ∈ acc)) (srtU acc).length) ∧
    Po g (fun c d H => W c d σ H) rho1 H1 (RV g.fa) ((quiet (evSC ev el t (wipeE e own) p.1 p.2.length i (p.2.drop i) acc s)).bind fun acc s2 => if (srtU acc).length < 64 then mkL false ((srtU acc).map .int) s2 else .fail) Q, ⟨p.2.length, by simp, Nat.zero_le _, rho1, s1, [], ?_, S1.laid nD, S1.out nD, ?_, h1⟩, ?_⟩
  · exact Evo.laid nD
  · rw [upd_same]
    congr 2
  rintro i m H2 ⟨rfl, hi, rho2, s2, acc, E3, S3, nd3, atD, h3⟩
  have hG : G H2 := by
    refine keep i rho2 H2 s2 E3 S3 ?_
    by_cases hl : i < p.2.length
    · rw [List.drop_eq_getElem_cons hl] at h3
      rw [List.getElem?_eq_getElem hl]
      simp only [evSC] at h3
      split at h3
      · assumption
      · exact h3.elim
    · rw [List.drop_eq_nil_of_le (by omega)] at h3
      rw [List.getElem?_eq_none (by omega)]
      simp only [evSC] at h3
      split at h3
      · assumption
      · exact h3.elim
  by_cases hlt : i < p.2.length
  · refine .inr ⟨walk.goes i H2 hlt hG, fun Hn => i + 1 ≤ p.2.length ∧ ∃ rho s acc, Evo rho1 H1 rho Hn ∧ StR g.fa rho Hn s ∧ D ∉ rho ∧ Hn D = some (SetO X.w D (fun k => decide (k ∈ acc)) (srtU acc).length) ∧
      Po g (fun c d H => W c d σ H) rho1 H1 (RV g.fa) ((quiet (evSC ev el t (wipeE e own) p.1 p.2.length (i + 1) (p.2.drop (i + 1)) acc s)).bind fun acc s2 => if (srtU acc).length < 64 then mkL false ((srtU acc).map .int) s2 else .fail) Q,
      fun G' q => ⟨p.2.length - (i + 1), by omega, rfl, q⟩, fun x H3 y => ?_⟩
    rw [List.drop_eq_getElem_cons hlt] at h3
    simp only [evSC] at h3
    split at h3
    case isFalse => exact h3.elim
    rename_i hc
    obtain ⟨E4, S4, R4⟩ := item i _ rho2 H2 s2 x H3 (List.getElem?_eq_getElem hlt) E3 S3 hc (walk.yields i H2 x H3 hlt hG y)
    have atD3 := E4.same _ _ atD nd3
    refine ⟨rho2, _, wipeE e own, s2, En1.mono (E3.trans E4), S4, R4, ?_⟩
    generalize asg ev t p.2[i] (wipeE e own) s2 = ra at h3 ⊢
    cases ra with
    | fail => exact h3.elim
    | exc k s => exact h3.elim
    | ok e1 s3 =>
      intro rho3 H4 σ2 E6 S5 R5
      obtain ⟨En2, ow⟩ := R5
      refine ⟨by rw [show wipe σ2 own = _ from ow, wipe_wipe], ?_⟩
      have h3 : Po g (fun c d H => W c d σ H) rho1 H1 (RV g.fa) ((quiet ((ev el e1 s3).bind fun y s3 => match y with
        | .int i0 => if acc.length < 4000 then evSC ev el t (wipeE e own) p.1 p.2.length (i + 1) (p.2.drop (i + 1)) (i0 :: acc) s3 else .fail
        | _ => .fail)).bind fun acc s2 => if (srtU acc).length < 64 then mkL false ((srtU acc).map .int) s2 else .fail) Q := h3
      refine ⟨rho3, e1, s3, En2, S5, ?_⟩
      generalize ev el e1 s3 = rb at h3 ⊢
      cases rb with
      | fail => exact h3.elim
      | exc k s => exact h3.elim
      | ok yv s4 =>
        intro rho4 H5 xv E7 S6 R6
        cases yv with
        | int i0 =>
          cases R6
          have h3 : Po g (fun c d H => W c d σ H) rho1 H1 (RV g.fa) ((quiet (if acc.length < 4000 then evSC ev el t (wipeE e own) p.1 p.2.length (i + 1) (p.2.drop (i + 1)) (i0 :: acc) s4 else .fail)).bind fun acc s2 => if (srtU acc).length < 64 then mkL false ((srtU acc).map .int) s2 else .fail) Q := h3
          split at h3
          case isFalse => exact h3.elim
          rename_i few
          have E8 := (E4.trans E6).trans E7
          have atD5 := (E6.trans E7).same _ _ atD3 (E4.out atD nd3)
          have nd5 := E8.out atD nd3
          have le := srtU_le acc
          refine ⟨i0, _, _, rfl, atD5, by unfold scanBound; omega, hlt, rho4, s4, i0 :: acc, Evo.skip nD (E3.trans E8), StR.skip atD5 S6, nd5, ?_, h3⟩
          rw [upd_same]
          have e1 : (grow (fun k => decide (k ∈ acc)) i0) = fun k => decide (k ∈ i0 :: acc) := by
            funext k
            show (decide (k ∈ acc) || decide (k = i0)) = decide (k ∈ i0 :: acc)
            by_cases z : k = i0 <;> by_cases z2 : k ∈ acc <;> simp [z, z2]
          have e2 : grown (fun k => decide (k ∈ acc)) i0 (srtU acc).length = (srtU (i0 :: acc)).length := by
            show (if decide (i0 ∈ acc) = true then _ else _) = (insU i0 (srtU acc)).length
            rw [insU_len i0 _ (srtU_pw acc)]
            by_cases z : i0 ∈ acc
            · rw [if_pos (decide_eq_true z), if_pos (srtU_mem.mpr z)]
            · rw [if_neg (by simpa using z), if_neg (fun q => z (srtU_mem.mp q))]
          rw [e1, e2]
        | _ => exact h3.elim
  · have ei : i = p.2.length := by omega
    subst ei
    refine .inl ⟨walk.stops H2 hG, ?_⟩
    rw [List.drop_eq_nil_of_le (Nat.le_refl _)] at h3
    simp only [evSC] at h3
    split at h3
    case isFalse => exact h3.elim
    have h3 : Po g (fun c d H => W c d σ H) rho1 H1 (RV g.fa) (if (srtU acc).length < 64 then mkL false ((srtU acc).map .int) s2 else .fail) Q := h3
    split at h3
    case isFalse => exact h3.elim
    rename_i h64
    refine ⟨D, _, _, rfl, atD, h64, fun ns q pw mem len nq => ?_⟩
    have en : ns = srtU acc := asc_eq pw (srtU_pw acc) fun z => (mem z).trans (by rw [decide_eq_true_iff, srtU_mem])
    rw [en]
    exact mkL_ok (Po.base h3 E3) S3 (RVs.ofInts _) q nq
end
end Bw

set_option Elab.async false
set_option linter.all false
set_option maxRecDepth 100000
set_option maxHeartbeats 4000000
/-! Bw: sets of a tuple's numbers, places in a list -/
namespace Bw
open PySem PySem.Spec PyProof.Rows L2
theorem setR_count {w : World} {h : Heap} {a : Addr} {S : Int → Bool} {n : Nat} (R : SetR w h a S n) : ∃ l : List Int, l.Nodup ∧ l.length = n ∧ ∀ k, S k = true ↔ k ∈ l := by
  obtain ⟨o, es, ep, t, ho, hex, hd, hg, nd, mem, _, _, hn, _⟩ := R
  exact ⟨_, nd, by rw [List.length_map, Array.length_toList, hn], mem⟩
theorem count_eq {l ns : List Int} (nd : l.Nodup) (h : ∀ k, decide (k ∈ ns) = true ↔ k ∈ l) : l.length = (srtU ns).length := by
  have nd2 : (srtU ns).Nodup := (srtU_pw ns).imp fun h => Int.ne_of_lt h
  exact ((List.perm_ext_iff_of_nodup nd nd2).mpr fun k => by rw [srtU_mem, ← h k]; simp).length_eq
section
variable {X : Cx} {pins : List (Addr × Obj)} {σ : L2.St} {H : Hp} {Q : VK}
def rSetTI (K : PySem.W.Frag) (w : World) : List V → Hp → VK → Prop := fun vs H Q => ∃ (a : Addr) (ns : List Int), vs = [V.ref a] ∧ SqT K H a (ns.map V.int) ∧ ns.length < 1000 ∧
  ∀ p, H p = none → Q (.ref p) (upd H p (SetO w p (fun j => decide (j ∈ ns)) (srtU ns).length))
theorem cr_setTI (hc : X.calm = true) : CallR X (.type "set") (rSetTI X.K X.w) := by
  intro pins s σ H vs us Q I r h
  obtain ⟨a, ns, rfl, hs, hl, q⟩ := h
  rw [Vals.ref1 r]
  obtain ⟨its, rv, ist, _⟩ := I.tuple hs
  refine call_set_tupI ns (I.ok.hd hc) ist (by simpa using rv.ints) (by unfold scanBound; omega) fun h' tk c R _ k => ?_
  obtain ⟨l, nd, e1, e2⟩ := setR_count R
  have e : c = (srtU ns).length := by rw [← e1]; exact count_eq nd e2
  subst e
  exact ⟨.ref _, upd H s.heap.objs.size (SetO X.w s.heap.objs.size (fun j => decide (j ∈ ns)) (srtU ns).length), I.laid (t' := tk) k (Nat.le_refl _) (setO_new R), rfl, q _ (I.hok.fresh (Nat.le_refl _))⟩
def rLenSet (w : World) : List V → Hp → VK → Prop := fun vs H Q => ∃ (a : Addr) (S : Int → Bool) (n : Nat), vs = [V.ref a] ∧ H a = some (SetO w a S n) ∧ Q (.int (n : Nat)) H
theorem cr_lenSet : CallR X (.builtin "len") (rLenSet X.w) := by
  intro pins s σ H vs us Q I r h
  obtain ⟨a, S, n, rfl, ha, q⟩ := h
  rw [Vals.ref1 r]
  have R := setO_get I ha
  obtain ⟨o, es, ep, t, ho, hex, hd, hg, nd, mem, hb, hf, hn, _⟩ := R
  refine call_len_set ho hex hd hf ?_ ⟨.int n, H, I.tok _, ⟨_, by rw [hn]⟩, q⟩
  unfold scanBound at hb
  omega
end
section
variable {g : Gd} {X : Cx} {rho : List Addr} {H : Hp} {σ : L2.St} {s : Sto} {Q : VK}
theorem idxP_ok : ∀ {ps : List PyData} {q : PyData} {n j : Nat}, idxP ps q n = some j → n ≤ j ∧ (∃ z, ps[j - n]? = some z ∧ PyData.eqv z q = true) ∧ ∀ (m : Nat) (z' : PyData), m < j - n → ps[m]? = some z' → PyData.eqv z' q = false
  | [], _, _, _, h => by cases h
  | p :: ps, q, n, j, h => by
    simp only [idxP] at h
    split at h
    · rename_i e
      cases h
      refine ⟨Nat.le_refl _, ⟨p, by simp, e⟩, fun m z' hm => ?_⟩
      omega
    · rename_i e
      obtain ⟨h1, ⟨z, h2, h3⟩, h4⟩ := idxP_ok h
      have ej : j - n = (j - (n + 1)) + 1 := by omega
      refine ⟨by omega, ⟨z, by rw [ej]; simpa using h2, h3⟩, fun m z' hm hz => ?_⟩
      cases m with
      | zero =>
        simp only [List.getElem?_cons_zero, Option.some.injEq] at hz
        subst hz
        simpa using e
      | succ m => exact h4 m z' (by omega) (by simpa using hz)
/-- a[::-1] of a list -/
theorem rvs_ok {Wv} {v : V} {d : D} (S : StR g.fa rho H s) (r : RV g.fa rho H v d) (h : Po g Wv rho H (RV g.fa) (rvsD d s) Q) : ∃ a xs, v = .ref a ∧ SqL X.K H a xs ∧ ∀ p, H p = none → Q (.ref p) (upd H p (.lst xs.reverse)) := by
  unfold rvsD at h
  split at h
  · rename_i ds e
    obtain ⟨a, xs, rfl, h1, r1⟩ := isL_at S r e
    exact ⟨a, xs, rfl, SqL.of h1, mk_lst h S r1.reverse⟩
  · exact h.elim
end
end Bw

set_option Elab.async false
set_option linter.all false
set_option maxRecDepth 100000
set_option maxHeartbeats 4000000
/-! Bw: expressions -/
namespace Bw
open PySem PySem.Spec PyProof.Rows L2
section
variable {g : Gd} {c : Cfg} {N : List Str} {cf : CF} {j : Nat} {X : Cx} {sc : Scope} {W : WX} {rho rho' : List Addr} {H H' : Hp} {s : Sto} {σ : L2.St} {Q : VK} {ev : C → En → Sto → R D}
theorem R.assoc {α β γ : Type} (r : R α) (f : α → Sto → R β) (k : β → Sto → R γ) : (r.bind f).bind k = r.bind fun x s => (f x s).bind k := by cases r <;> rfl
theorem tE_bad {ev : C → En → Sto → R D} {cc : C} (h : ∀ e s, ev cc e s = .fail) : ¬ tE g W ev cc σ H Q := fun ⟨_, e, s, _, _, q⟩ => by rw [h] at q; exact q
theorem fold_plain {e : Expr} (h : plainE e = true) (env : Env) (x : Value) : foldedSetIterable e env x = pure x := by
  cases e <;> first | rfl | (cases h; done)
theorem nomarkP {b : Expr} (h : plainE b = true) (op : CmpOp) : behindInMarks op b = false := by
  cases b <;> first | rfl | (cases h; done)
theorem marksP {a b : Expr} (h : plainE b = true) {op : CmpOp} (op' : CmpOp) : lastMarks [op, op'] [a, b] = false := nomarkP h op'
theorem pa_map {f : Expr → C} (ih : ∀ e, PE X e (tE g W ev (f e))) : ∀ {es : List Expr}, es.all plainE = true → PA X es (tA g W ev (es.map f))
  | [], _ => PA.imp pa_nil fun σ H Q h => by
    obtain ⟨rho, e, s, E, S, h⟩ := h
    exact h.val S .nil
  | e :: es, he => by
    rw [List.all_cons, Bool.and_eq_true] at he
    refine PA.imp (pa_cons (ih e) (pa_map ih he.2) (star_cons he.1 es X.env)) fun σ H Q h => ?_
    obtain ⟨rho, e0, s, E, S, h⟩ := h
    refine ⟨rho, e0, s, E, S, Po.bind h fun v s1 r1 H1 x _ E1 S1 R1 h1 => ⟨r1, e0, s1, E.mono E1, S1, Po.bind h1 fun vs s2 r2 H2 xs _ E2 S2 R2 h2 => ?_⟩⟩
    exact h2.val S2 (.cons (R1.mono E2) R2)
theorem PE.eq {e : Expr} {a b : C} (q : a = b) (h : PE X e (tE g W ev b)) : PE X e (tE g W ev a) := by rw [q]; exact h
theorem pe_bad {e : Expr} {cf : CF} {gl : Str → Option D} {n : Nat} : PE X e (tE g W (evE cf gl n) .bad) := PE.none fun σ H Q => tE_bad fun e s => by cases n <;> rfl
theorem cst_read {v : V} {d : D} {e : Expr} {cf : CF} {gl : Str → Option D} {n : Nat} (h : PE X e (tC v)) (r : ∀ rho H, RV g.fa rho H v d) : PE X e (tE g W (evE cf gl (n + 1)) (.cst d)) :=
  PE.imp h fun σ H Q ⟨rho, e, s, E, S, q⟩ => q.val S (r _ _)
theorem var_read (F : Fit g c N cf j X sc W) {x : Str} {i n : Nat} {p : Pos} {gl : Str → Option D} (hv : Vis sc x) (hi : ixOf N x = some i) (ok : okN x = true) : PE X (.Name x p) (tE g W (evE cf gl (n + 1)) (.var i)) := by
  obtain ⟨d1, d2, _⟩ := okN_dbg ok
  refine PE.imp (pe_var (i := i) (by rw [F.hN]; exact ixOf_ok hi) (by rw [F.sc]; exact hv) d1 d2) fun σ H Q ⟨rho, e, s, E, S, q⟩ => ?_
  have q : Po g (fun c d H => W c d σ H) rho H (RV g.fa) (match e[i]? with
      | some (some v) => .ok v s
      | _ => .fail) Q := q
  split at q
  · rename_i v ev
    obtain ⟨z, h1, h2⟩ := E.at_ i v ev
    exact ⟨z, h1, q.val S h2⟩
  · exact q.elim
theorem fn_at (F : Fit g c N cf j X sc W) {x : Str} {k : Nat} (h : ixOf c.fns x = some k) : ∃ f, g.P[k]? = some f ∧ f.name = x := by
  have q := ixOf_ok h
  rw [F.fns, List.getElem?_map] at q
  cases e : g.P[k]? with
  | none => rw [e] at q; cases q
  | some f => rw [e] at q; exact ⟨f, rfl, Option.some.inj q⟩
theorem pe_call0S {CX : CXT} {k : Nat} {f : Addr} {fd : FuncData} {ps : List Str} {sp : Sp} {dvs : List V} {ds : List Value} {E : L2.St → XK} {x : Str} {p pos : Pos} (F : FnOk X.prog X.w X.K X.mg X.base CX k f fd ps sp) (hr : Room k X.A) (hg : Gl X x) (hm : X.mg x = some (.ref f)) (hk : PySem.W.keepIn X.K (.ref f) = true) (hb : Binds X.K fd ps ds) (hd : Vals dvs ds) (hx : ∀ σ, PassesAt CX X σ (E σ))
    (hdb : (x == ("__debug__" : Str)) = false) : PE X (.Call (.Name x p) [] [] pos) (tCallSD sp dvs E tNil) := by
  refine ⟨fun pins s σ H Q I h => ?_⟩
  refine wpAny_Call_Name_kw (ld_glob I hg hm ?_ hdb)
  exact PySem.W.callWith_K0 I.kIn hk (run_fnSD (us := []) F hr hb hd (hx σ) I .nil h)
theorem call_reads (F : Fit g c N cf j X sc W) {k : Nat} {f : Bw.F} {cs : List C} {n : Nat} {gl : Str → Option D} (hf : g.P[k]? = some f) : ∀ σ H Q, tE g W (evE cf gl (n + 1)) (.call k cs) σ H Q → tCallSD (spI g cf k f.ps.length) [] (WE W) (tA g W (evE cf gl n) cs) σ H Q := fun σ H Q ⟨rho, e, s, E, S, q⟩ =>
    ⟨rho, e, s, E, S, Po.bind q fun vs s1 r1 H1 xs _ E1 S1 R1 q1 => by
      rw [List.append_nil]
      refine ⟨?_, r1, vs, s1, S1, R1, q1⟩
      rw [R1.length]
      refine F.len k f vs s1 hf fun z => ?_
      rw [z] at q1
      exact q1⟩
theorem call_read (F : Fit g c N cf j X sc W) {x : Str} {k : Nat} {p pos : Pos} {e : Expr} {es : List Expr} {cs : List C} {n : Nat} {gl : Str → Option D} (ok : okN x = true) (hl : sc.names.lookup x = some .globalImplicit) (hk : ixOf c.fns x = some k) (h1 : plainE e = true) (he : es.all plainE = true)
    (ha : PA X (e :: es) (tA g W (evE cf gl n) cs)) : PE X (.Call (.Name x p) (e :: es) [] pos) (tE g W (evE cf gl (n + 1)) (.call k cs)) := by
  obtain ⟨f, hf, rfl⟩ := fn_at F hk
  obtain ⟨a, fd, h1', h2, h3, h4, h5, _⟩ := F.calls k f hf
  exact PE.imp (pe_callSD h5 F.room (F.gl hl) h2 h3 h4 .nil (fun σ => passAt F.tk σ) ha (okN_dbg ok).1 (star_cons h1 es X.env) (star_any he pos X.env)) (call_reads F hf)
theorem call_read0 (F : Fit g c N cf j X sc W) {x : Str} {k : Nat} {p pos : Pos} {n : Nat} {gl : Str → Option D} (ok : okN x = true) (hl : sc.names.lookup x = some .globalImplicit) (hk : ixOf c.fns x = some k) : PE X (.Call (.Name x p) [] [] pos) (tE g W (evE cf gl (n + 1)) (.call k [])) := by
  obtain ⟨f, hf, rfl⟩ := fn_at F hk
  obtain ⟨a, fd, h1', h2, h3, h4, h5, _⟩ := F.calls k f hf
  refine PE.imp (pe_call0S h5 F.room (F.gl hl) h2 h3 h4 .nil (fun σ => passAt F.tk σ) (okN_dbg ok).1) fun σ H Q q => ?_
  obtain ⟨rho, e, s, E, S, q⟩ := call_reads F hf σ H Q q
  exact q.val S .nil
/-- a call by keywords, where what is raised is wished for at the caller's slots -/
theorem run_fnKS {CX : CXT} {k : Nat} {f : Addr} {fd : FuncData} {ps ks : List Str} {sp : Sp} {E : L2.St → XK} {gv : List Value → List Value → List Value} {gV : List V → List V → List V} {pins : List (Addr × Obj)} {us ws : List Value} {vs zs : List V} {sh : Shared} (F : FnOk X.prog X.w X.K X.mg X.base CX k f fd ps sp) (hr : Room k X.A) (hb : KBinds X.K fd ps ks gv gV) (hx : PassesAt CX X σ (E σ))
    (I : Inv X pins σ H sh) (r : Vals vs us) (rz : Vals zs ws) (h : sp (gV vs zs) H Q (E σ)) : wpAny (model X.prog X.w) X.A (call (.ref f) us (ks.zip ws)) (EP X pins σ Q) X.xe sh := by
  have r2 := hb.rel r rz
  have hl : (gv us ws).length = ps.length := by rw [← r2.length]; exact F.len _ _ _ _ h
  refine wpAny_call (codeAny_mono (F.run X.A X.stack sh H ⟨us, ks.zip ws⟩ (gv us ws) (gV vs zs) Q (E σ) hr I.env0 (hb.to sh us ws I.kIn hl) r2 h) fun r s' hq => ?_)
  cases r with
  | error e => exact hx pins H sh e s' I hq
  | ok fl =>
    cases fl with
    | ret u => exact I.after hq
    | next => exact False.elim hq
    | brk => exact False.elim hq
    | cont => exact False.elim hq
theorem kw_all {ks : List Str} {env : Env} {pos : Pos} : ∀ {kws : List Keyword}, kwNames kws = some ks → (backToKw pos (keywordEach kws env)).all (·.1.isSome) = true ∧ (backToKw pos (keywordEach kws env)).filterMap (·.1) = ks ∧ (backToKw pos (keywordEach kws env)).any (·.1.isNone) = false
  | [], h => by cases h; exact ⟨rfl, rfl, rfl⟩
  | ⟨none, e, p⟩ :: r, h => by cases h
  | ⟨some x, e, p⟩ :: r, h => by
    unfold kwNames at h
    split at h
    · rename_i l hl
      cases h
      obtain ⟨i1, i2, i3⟩ := kw_all (env := env) (pos := pos) hl
      refine ⟨?_, ?_, ?_⟩
      · show (true && (backToKw pos (keywordEach r env)).all (·.1.isSome)) = true
        rw [i1]; rfl
      · show x :: (backToKw pos (keywordEach r env)).filterMap (·.1) = x :: l
        rw [i2]
      · show (false || (backToKw pos (keywordEach r env)).any (·.1.isNone)) = false
        rw [i3]; rfl
    · cases h
theorem PK.imp {kws : List Keyword} {t t' : TA} (h : PK X kws t) (k : ∀ σ H Q, t' σ H Q → t σ H Q) : PK X kws t' := ⟨fun pos pins s σ H Q I q => h.run pos pins s σ H Q I (k σ H Q q)⟩
theorem pk_map {f : Expr → C} (ih : ∀ e, PE X e (tE g W ev (f e))) : ∀ {kws : List Keyword}, PK X kws (tA g W ev (kws.map fun w => f w.value))
  | [] => PK.imp pk_nil fun σ H Q h => by
    obtain ⟨rho, e, s, E, S, h⟩ := h
    exact h.val S .nil
  | ⟨x, e, p⟩ :: es => by
    refine PK.imp (pk_cons (ih e) (pk_map ih)) fun σ H Q h => ?_
    obtain ⟨rho, e0, s, E, S, h⟩ := h
    refine ⟨rho, e0, s, E, S, Po.bind h fun v s1 r1 H1 x _ E1 S1 R1 h1 => ⟨r1, e0, s1, E.mono E1, S1, Po.bind h1 fun vs s2 r2 H2 xs _ E2 S2 R2 h2 => ?_⟩⟩
    exact h2.val S2 (.cons (R1.mono E2) R2)
theorem evs_app (ev : C → En → Sto → R D) : ∀ (as bs : List C) (e : En) (s : Sto), evs ev (as ++ bs) e s = (evs ev as e s).bind fun vs s1 => (evs ev bs e s1).bind fun ws s2 => .ok (vs ++ ws) s2
  | [], bs, e, s => by
    show evs ev bs e s = (evs ev bs e s).bind fun ws s2 => .ok ([] ++ ws) s2
    cases evs ev bs e s <;> rfl
  | a :: as, bs, e, s => by
    show (ev a e s).bind (fun x s1 => (evs ev (as ++ bs) e s1).bind fun xs s2 => .ok (x :: xs) s2) = ((ev a e s).bind fun x s1 => (evs ev as e s1).bind fun xs s2 => .ok (x :: xs) s2).bind _
    cases ev a e s with
    | fail => rfl
    | exc k s1 => rfl
    | ok x s1 =>
      show (evs ev (as ++ bs) e s1).bind _ = ((evs ev as e s1).bind fun xs s2 => .ok (x :: xs) s2).bind _
      rw [evs_app ev as bs e s1]
      cases evs ev as e s1 with
      | fail => rfl
      | exc k s1 => rfl
      | ok xs s2 =>
        show ((evs ev bs e s2).bind fun ws s2 => R.ok (xs ++ ws) s2).bind _ = (evs ev bs e s2).bind _
        cases evs ev bs e s2 <;> rfl
theorem RVs.pick {vs : List V} {ds us : List D} (r : RVs g.fa rho H vs ds) : ∀ {pm : List Nat}, Bw.pick pm ds = some us → ∃ xs, Bw.pick pm vs = some xs ∧ RVs g.fa rho H xs us
  | [], h => by cases h; exact ⟨[], rfl, .nil⟩
  | i :: is, h => by
    unfold Bw.pick at h
    split at h
    · rename_i v hv
      split at h
      · rename_i l hl
        cases h
        obtain ⟨x, h1, h2⟩ := r.at hv
        obtain ⟨xs, h3, h4⟩ := RVs.pick r hl
        refine ⟨x :: xs, ?_, .cons h2 h4⟩
        unfold Bw.pick
        rw [h1, h3]
      · cases h
    · cases h
def tCallKS (sp : Sp) (gV : List V → List V → List V) (E : L2.St → XK) (t tk : TA) : TE := fun σ H Q => t σ H fun vs H1 => tk σ H1 fun zs H2 => sp (gV vs zs) H2 Q (E σ)
theorem pe_callKS {CX : CXT} {k : Nat} {f : Addr} {fd : FuncData} {ps ks : List Str} {sp : Sp} {E : L2.St → XK} {gv : List Value → List Value → List Value} {gV : List V → List V → List V} {x : Str} {p pos : Pos} {e : Expr} {es : List Expr} {kws : List Keyword} {t tk : TA} (F : FnOk X.prog X.w X.K X.mg X.base CX k f fd ps sp) (hr : Room k X.A) (hg : Gl X x) (hm : X.mg x = some (.ref f)) (hk : PySem.W.keepIn X.K (.ref f) = true) (hb : KBinds X.K fd ps ks gv gV) (hx : ∀ σ, PassesAt CX X σ (E σ))
    (ha : PA X (e :: es) t) (hkw : PK X kws tk) (hdb : (x == ("__debug__" : Str)) = false) (he : starEach (e :: es) X.env = (false, eval e X.env) :: starEach es X.env) (hpl : (backTo pos (starEach (e :: es) X.env)).any (·.1) = false) (hn : kwNames kws = some ks) :
    PE X (.Call (.Name x p) (e :: es) kws pos) (tCallKS sp gV E t tk) := by
  obtain ⟨k1, k2, k3⟩ := kw_all (env := X.env) (pos := pos) hn
  refine ⟨fun pins s σ H Q I h => ?_⟩
  refine wpAny_Call_Name_kw (ld_glob I hg hm ?_ hdb)
  refine PySem.W.callWith_KW (h₀ := X.base) I.ok.mod.kin hk k1 (thn (ha.run pos pins s σ H _ I h) fun us s1 ⟨vs, H1, I1, r, q⟩ => ?_) (by rw [hpl, k3]; rfl) he
  refine thn (hkw.run pos pins s1 σ H1 _ I1 q) fun ws s2 ⟨zs, H2, I2, rz, q2⟩ => ⟨I2.kIn, ?_⟩
  rw [k2]
  exact run_fnKS F hr hb (hx σ) I2 r rz q2
theorem pe_callKS0 {CX : CXT} {k : Nat} {f : Addr} {fd : FuncData} {ps ks : List Str} {sp : Sp} {E : L2.St → XK} {gv : List Value → List Value → List Value} {gV : List V → List V → List V} {x : Str} {p pos : Pos} {kws : List Keyword} {tk : TA} (F : FnOk X.prog X.w X.K X.mg X.base CX k f fd ps sp) (hr : Room k X.A) (hg : Gl X x) (hm : X.mg x = some (.ref f)) (hk : PySem.W.keepIn X.K (.ref f) = true) (hb : KBinds X.K fd ps ks gv gV) (hx : ∀ σ, PassesAt CX X σ (E σ))
    (hkw : PK X kws tk) (hdb : (x == ("__debug__" : Str)) = false) (hn : kwNames kws = some ks) :
    PE X (.Call (.Name x p) [] kws pos) (tCallKS sp gV E tNil tk) := by
  obtain ⟨k1, k2, k3⟩ := kw_all (env := X.env) (pos := pos) hn
  refine ⟨fun pins s σ H Q I h => ?_⟩
  refine wpAny_Call_Name_kw (ld_glob I hg hm ?_ hdb)
  refine PySem.W.callWith_KW0 (h₀ := X.base) I.ok.mod.kin hk k1 ?_ (by rw [k3]; rfl)
  refine thn (hkw.run pos pins s σ H _ I h) fun ws s2 ⟨zs, H2, I2, rz, q2⟩ => ⟨I2.kIn, ?_⟩
  rw [k2]
  exact run_fnKS (us := []) (vs := []) F hr hb (hx σ) I2 .nil rz q2
theorem evs_len (ev : C → En → Sto → R D) : ∀ (as : List C) (e : En) (s s1 : Sto) (vs : List D), evs ev as e s = .ok vs s1 → vs.length = as.length
  | [], e, s, s1, vs, h => by cases h; rfl
  | a :: as, e, s, s1, vs, h => by
    have h : ((ev a e s).bind fun x s1 => (evs ev as e s1).bind fun xs s2 => .ok (x :: xs) s2) = .ok vs s1 := h
    cases hr : ev a e s with
    | fail => rw [hr] at h; cases h
    | exc k s2 => rw [hr] at h; cases h
    | ok x s2 =>
      rw [hr] at h
      have h : ((evs ev as e s2).bind fun xs s2 => R.ok (x :: xs) s2) = .ok vs s1 := h
      cases hq : evs ev as e s2 with
      | fail => rw [hq] at h; cases h
      | exc k s3 => rw [hq] at h; cases h
      | ok xs s3 =>
        rw [hq] at h
        have h : R.ok (x :: xs) s3 = R.ok vs s1 := h
        cases h
        exact congrArg Nat.succ (evs_len ev as e s2 _ xs hq)
theorem kw_len : ∀ {kws : List Keyword} {ks : List Str}, kwNames kws = some ks → kws.length = ks.length
  | [], ks, h => by cases h; rfl
  | ⟨none, e, p⟩ :: r, ks, h => by cases h
  | ⟨some x, e, p⟩ :: r, ks, h => by
    unfold kwNames at h
    split at h
    · rename_i l hl
      cases h
      exact congrArg Nat.succ (kw_len hl)
    · cases h
theorem callK_reads (F : Fit g c N cf j X sc W) {k : Nat} {f : Bw.F} {q : Nat × Nat × List Str × List Nat} {cs ds : List C} {n : Nat} {gl : Str → Option D} (hf : g.P[k]? = some f) (hcs : cs.length = q.2.1) (hds : ds.length = q.2.2.1.length) :
    ∀ σ H Q, tE g W (evE cf gl (n + 1)) (.callK k q.2.2.2 (cs ++ ds)) σ H Q → tCallKS (spI g cf k f.ps.length) (gK q) (WE W) (tA g W (evE cf gl n) cs) (tA g W (evE cf gl n) ds) σ H Q := fun σ H Q ⟨rho, e, s, E, S, h⟩ => by
  have h : Po g (fun c d H => W c d σ H) rho H (RV g.fa) ((evs (evE cf gl n) (cs ++ ds) e s).bind fun vs s1 => match pick q.2.2.2 vs with
      | some us => cf k us s1
      | none => .fail) Q := h
  rw [evs_app, R.assoc] at h
  refine ⟨rho, e, s, E, S, Po.bind h fun vs s1 r1 H1 xs ev1 E1 S1 R1 h1 => ?_⟩
  rw [R.assoc] at h1
  refine ⟨r1, e, s1, E.mono E1, S1, Po.bind h1 fun zs s2 r2 H2 ys ev2 E2 S2 R2 h2 => ?_⟩
  have h2 : Po g (fun c d H => W c d σ H) r2 H2 (RV g.fa) (match pick q.2.2.2 (vs ++ zs) with
      | some us => cf k us s2
      | none => .fail) Q := h2
  split at h2
  · rename_i us hp
    have R1' := R1.mono E2
    obtain ⟨us', p1, p2⟩ := (R1'.append R2).pick hp
    have hlen : us.length = f.ps.length := F.len k f us s2 hf fun z => by rw [z] at h2; exact h2
    have hg : gK q xs ys = us' := by
      unfold gK
      rw [if_pos ⟨by rw [R1.length, evs_len _ _ _ _ _ _ ev1, hcs], by rw [R2.length, evs_len _ _ _ _ _ _ ev2, hds]⟩, p1]
      rfl
    rw [hg]
    exact ⟨by rw [p2.length, hlen], r2, us, s2, S2, p2, h2⟩
  · exact h2.elim
theorem callK_read (F : Fit g c N cf j X sc W) {x : Str} {k : Nat} {p pos : Pos} {es : List Expr} {kw : Keyword} {kws : List Keyword} {ks : List Str} {q : Nat × Nat × List Str × List Nat} {n : Nat} {gl : Str → Option D} {fe : Expr → C} (ok : okN x = true) (hl : sc.names.lookup x = some .globalImplicit) (hk : ixOf c.fns x = some k) (he : es.all plainE = true)
    (hn : kwNames (kw :: kws) = some ks) (hq : q ∈ c.kwp) (q1 : q.1 = k) (q2 : q.2.1 = es.length) (q3 : q.2.2.1 = ks)
    (ih : ∀ e, PE X e (tE g W (evE cf gl n) (fe e))) : PE X (.Call (.Name x p) es (kw :: kws) pos) (tE g W (evE cf gl (n + 1)) (.callK k q.2.2.2 (es.map fe ++ (kw :: kws).map fun w => fe w.value))) := by
  obtain ⟨f, hf, rfl⟩ := fn_at F hk
  obtain ⟨a, fd, h1', h2, h3, h4, h5, h6⟩ := F.calls k f hf
  have KB := (h6 q hq q1).2
  rw [q3] at KB
  have hd := pk_map ih (kws := kw :: kws)
  have rd := callK_reads F (q := q) (cs := es.map fe) (ds := (kw :: kws).map fun w => fe w.value) (n := n) (gl := gl) hf (by rw [List.length_map, q2]) (by rw [List.length_map, kw_len hn, q3])
  cases es with
  | nil =>
    refine PE.imp (pe_callKS0 h5 F.room (F.gl hl) h2 h3 KB (fun σ => passAt F.tk σ) hd (okN_dbg ok).1 hn) fun σ H Q z => ?_
    obtain ⟨rho, e, s, E, S, h⟩ := rd σ H Q z
    exact h.val S .nil
  | cons e es =>
    have he' := he
    rw [List.all_cons, Bool.and_eq_true] at he'
    exact PE.imp (pe_callKS h5 F.room (F.gl hl) h2 h3 KB (fun σ => passAt F.tk σ) (pa_map ih he) hd (okN_dbg ok).1 (star_cons he'.1 es X.env) (star_any he pos X.env) hn) rd
/-- a call of what an expression tells -/
theorem callX_read (F : Fit g c N cf j X sc W) {a i : Expr} {sp pos : Pos} {es : List Expr} {n : Nat} {gl : Str → Option D} {fc : C} {fe : Expr → C} (he : es.all plainE = true) (h0 : PE X (.Subscript a i sp) (tE g W (evE cf gl n) fc))
    (ih : ∀ e, PE X e (tE g W (evE cf gl n) (fe e))) : PE X (.Call (.Subscript a i sp) es [] pos) (tE g W (evE cf gl (n + 1)) (.callX fc (es.map fe))) := by
  refine ⟨fun pins s σ H Q I h => ?_⟩
  obtain ⟨rho, e, st, E, S, h⟩ := h
  have h : Po g (fun c d H => W c d σ H) rho H (RV g.fa) ((evE cf gl n fc e st).bind fun x s1 => match x with
      | .fn k => (evs (evE cf gl n) (es.map fe) e s1).bind fun vs s2 => cf k vs s2
      | _ => .fail) Q := h
  show wpAny (model X.prog X.w) X.A (do callWith pos (← eval (.Subscript a i sp) X.env) [] (backTo pos (starEach es X.env)) (backToKw pos (keywordEach [] X.env))) _ _ _
  refine wpAny_bind (thn (h0.run pins s σ H (fun x H1 => ∃ k ad f s1 r1, x = .ref ad ∧ g.fa k = some ad ∧ g.P[k]? = some f ∧ EnR g.fa r1 H1 e σ ∧ StR g.fa r1 H1 s1 ∧ Po g (fun c d H => W c d σ H) r1 H1 (RV g.fa) ((evs (evE cf gl n) (es.map fe) e s1).bind fun vs s2 => cf k vs s2) Q) I ⟨rho, e, st, E, S, Po.bind h fun v s1 r1 H1 x _ E1 S1 R1 h1 => ?_⟩) fun u s1 ⟨x, H1, I1, rx, k, ad, f, s1', r1, ex, hk, hf, E1, S1, h1⟩ => ?_)
  · cases R1 with
    | @fn k ad hk =>
      obtain ⟨f, hf⟩ := F.fnP k ad hk
      exact ⟨k, ad, f, s1, r1, rfl, hk, hf, E.mono E1, S1, h1⟩
    | _ => exact h1.elim
  · subst ex
    cases rx
    obtain ⟨a', fd, h1', h2, h3, h4, h5, h6⟩ := F.calls k f hf
    rw [hk] at h1'
    cases h1'
    have go : ∀ vs s2 r2 H2 xs, Evo r1 H1 r2 H2 → StR g.fa r2 H2 s2 → RVs g.fa r2 H2 xs vs → Po g (fun c d H => W c d σ H) r2 H2 (RV g.fa) (cf k vs s2) Q → spI g cf k f.ps.length (xs ++ []) H2 Q (WE W σ) := by
      intro vs s2 r2 H2 xs E2 S2 R2 q
      rw [List.append_nil]
      refine ⟨?_, r2, vs, s2, S2, R2, q⟩
      rw [R2.length]
      exact F.len k f vs s2 hf fun z => by rw [z] at q; exact q
    cases es with
    | nil =>
      refine PySem.W.callWith_K0 I1.kIn h3 (run_fnSD (us := []) h5 F.room h4 .nil (passAt F.tk σ) I1 .nil ?_)
      exact go [] s1' r1 H1 [] (Evo.refl _ _) S1 .nil h1
    | cons e1 es =>
      have he' := he
      rw [List.all_cons, Bool.and_eq_true] at he'
      refine PySem.W.callWith_K (h₀ := X.base) I1.ok.mod.kin h3 (thn ((pa_map ih he).run pos pins s1 σ H1 (fun xs H2 => spI g cf k f.ps.length (xs ++ []) H2 Q (WE W σ)) I1 ⟨r1, e, s1', E1, S1, Po.bind h1 fun vs s2 r2 H2 xs _ E2 S2 R2 q2 => go vs s2 r2 H2 xs E2 S2 R2 q2⟩) fun us s2 ⟨vs, H2, I2, r, q⟩ => ⟨I2.kIn, ?_⟩) (star_cons he'.1 es X.env) (star_any he'.2 pos X.env)
      exact run_fnSD h5 F.room h4 .nil (passAt F.tk σ) I2 r q
/-- a call of what a local name holds -/
theorem callN_read (F : Fit g c N cf j X sc W) {x0 : Str} {sp pos : Pos} {es : List Expr} {n : Nat} {gl : Str → Option D} {fc : C} {fe : Expr → C} (he : es.all plainE = true) (h0 : PE X (.Name x0 sp) (tE g W (evE cf gl n) fc))
    (ih : ∀ e, PE X e (tE g W (evE cf gl n) (fe e))) : PE X (.Call (.Name x0 sp) es [] pos) (tE g W (evE cf gl (n + 1)) (.callX fc (es.map fe))) := by
  refine ⟨fun pins s σ H Q I h => ?_⟩
  obtain ⟨rho, e, st, E, S, h⟩ := h
  have h : Po g (fun c d H => W c d σ H) rho H (RV g.fa) ((evE cf gl n fc e st).bind fun x s1 => match x with
      | .fn k => (evs (evE cf gl n) (es.map fe) e s1).bind fun vs s2 => cf k vs s2
      | _ => .fail) Q := h
  refine wpAny_Call_Name_kw (thn (h0.run pins s σ H (fun x H1 => ∃ k ad f s1 r1, x = .ref ad ∧ g.fa k = some ad ∧ g.P[k]? = some f ∧ EnR g.fa r1 H1 e σ ∧ StR g.fa r1 H1 s1 ∧ Po g (fun c d H => W c d σ H) r1 H1 (RV g.fa) ((evs (evE cf gl n) (es.map fe) e s1).bind fun vs s2 => cf k vs s2) Q) I ⟨rho, e, st, E, S, Po.bind h fun v s1 r1 H1 x _ E1 S1 R1 h1 => ?_⟩) fun u s1 ⟨x, H1, I1, rx, k, ad, f, s1', r1, ex, hk, hf, E1, S1, h1⟩ => ?_)
  · cases R1 with
    | @fn k ad hk =>
      obtain ⟨f, hf⟩ := F.fnP k ad hk
      exact ⟨k, ad, f, s1, r1, rfl, hk, hf, E.mono E1, S1, h1⟩
    | _ => exact h1.elim
  · subst ex
    cases rx
    obtain ⟨a', fd, h1', h2, h3, h4, h5, h6⟩ := F.calls k f hf
    rw [hk] at h1'
    cases h1'
    have go : ∀ vs s2 r2 H2 xs, Evo r1 H1 r2 H2 → StR g.fa r2 H2 s2 → RVs g.fa r2 H2 xs vs → Po g (fun c d H => W c d σ H) r2 H2 (RV g.fa) (cf k vs s2) Q → spI g cf k f.ps.length (xs ++ []) H2 Q (WE W σ) := by
      intro vs s2 r2 H2 xs E2 S2 R2 q
      rw [List.append_nil]
      refine ⟨?_, r2, vs, s2, S2, R2, q⟩
      rw [R2.length]
      exact F.len k f vs s2 hf fun z => by rw [z] at q; exact q
    cases es with
    | nil =>
      refine PySem.W.callWith_K0 I1.kIn h3 (run_fnSD (us := []) h5 F.room h4 .nil (passAt F.tk σ) I1 .nil ?_)
      exact go [] s1' r1 H1 [] (Evo.refl _ _) S1 .nil h1
    | cons e1 es =>
      have he' := he
      rw [List.all_cons, Bool.and_eq_true] at he'
      refine PySem.W.callWith_K (h₀ := X.base) I1.ok.mod.kin h3 (thn ((pa_map ih he).run pos pins s1 σ H1 (fun xs H2 => spI g cf k f.ps.length (xs ++ []) H2 Q (WE W σ)) I1 ⟨r1, e, s1', E1, S1, Po.bind h1 fun vs s2 r2 H2 xs _ E2 S2 R2 q2 => go vs s2 r2 H2 xs E2 S2 R2 q2⟩) fun us s2 ⟨vs, H2, I2, r, q⟩ => ⟨I2.kIn, ?_⟩) (star_cons he'.1 es X.env) (star_any he'.2 pos X.env)
      exact run_fnSD h5 F.room h4 .nil (passAt F.tk σ) I2 r q
theorem glb_read (F : Fit g c N cf j X sc W) {x : Str} {p : Pos} {n : Nat} (ok : okN x = true) (hl : sc.names.lookup x = some .globalImplicit) (hx : x ∈ c.con) : PE X (.Name x p) (tE g W (evE cf g.gl (n + 1)) (.glb x)) := by
  cases hv : g.gl x with
  | none =>
    refine PE.none fun σ H Q ⟨rho, e, s, E, S, q⟩ => ?_
    simp only [evE, hv] at q
    exact q
  | some v =>
    obtain ⟨u, z, h1, h2, h3⟩ := F.con x hx v hv
    refine PE.imp (pe_glob (v := z) (F.gl hl) h1 h2 (okN_dbg ok).1) fun σ H Q ⟨rho, e, s, E, S, q⟩ => ?_
    simp only [evE, hv] at q
    exact q.val S (h3 _ _)
theorem fnv_read (F : Fit g c N cf j X sc W) {x : Str} {k : Nat} {p : Pos} {n : Nat} {gl : Str → Option D} (ok : okN x = true) (hl : sc.names.lookup x = some .globalImplicit) (hk : ixOf c.fns x = some k) : PE X (.Name x p) (tE g W (evE cf gl (n + 1)) (.cst (.fn k))) := by
  obtain ⟨f, hf, rfl⟩ := fn_at F hk
  obtain ⟨a, fd, h1, h2, h3, h4, h5, _⟩ := F.calls k f hf
  exact cst_read (pe_glob (v := .ref a) (F.gl hl) h2 rfl (okN_dbg ok).1) fun rho H => .fn h1
/-- tests -/
theorem pt_plain {e : Expr} {cc : C} (he : ∀ whole, isTrue e X.env whole = (do let v ← whole; standAt e.pos; holding [v] (truthy v))) (h : PE X e (tE g W ev cc)) : PT X e (tT g W ev cc) := by
  refine PT.imp (pt_truth h he) fun σ H Q ⟨rho, e0, s, E, S, q⟩ => ⟨rho, e0, s, E, S, Po.bind q fun v s1 r1 H1 x _ E1 S1 R1 q1 => ?_⟩
  split at q1
  · rename_i b eb
    exact ⟨b, tru_of S1 R1 eb, q1.val S1 rfl⟩
  · exact q1.elim
mutual
theorem toP_clean : ∀ {d : D} {p : PyData}, toP d = some p → clean d = true
  | .non, _, _ => rfl
  | .bl _, _, _ => rfl
  | .int _, _, _ => rfl
  | .str _, _, _ => rfl
  | .tup xs, _, h => by
    simp only [toP] at h
    split at h
    · rename_i l e
      exact toPs_clean e
    · cases h
  | .lst xs, _, h => by
    simp only [toP] at h
    split at h
    · rename_i l e
      exact toPs_clean e
    · cases h
  | .ref _, _, h => by cases h
  | .scr _, _, h => by cases h
  | .fn _, _, h => by cases h
theorem toPs_clean : ∀ {ds : List D} {ps : List PyData}, toPs ds = some ps → cleans ds = true
  | [], _, _ => rfl
  | x :: xs, _, h => by
    simp only [toPs] at h
    split at h
    · rename_i y e
      split at h
      · rename_i l e2
        simp only [cleans, toP_clean e, toPs_clean e2, Bool.and_self]
      · cases h
    · cases h
end
theorem eqD_clean {a b : D} {k : Bool} (h : eqD a b = some k) : clean a = true ∧ clean b = true := by
  unfold eqD at h
  split at h
  · rename_i e1 e2
    exact ⟨toP_clean e1, toP_clean e2⟩
  · cases h
theorem memD_clean {a b : D} {k : Bool} (h : memD a b = some k) : clean a = true ∧ clean b = true := by
  unfold memD at h
  split at h
  · rename_i e1 e2
    exact ⟨toP_clean e1, toP_clean e2⟩
  · rename_i e1 e2
    exact ⟨toP_clean e1, toP_clean e2⟩
  · cases h
theorem rs_rv (S : StR g.fa rho H s) {x : V} {d : D} (r : RV g.fa rho H x d) (h : clean (rs s d) = true) : RV g.fa [] H x (rs s d) := by
  cases r with
  | @ref i a hi =>
    simp only [rs] at h ⊢
    split at h
    · rename_i lk xs e
      obtain ⟨ys, h1, h2⟩ := S.some hi e
      exact .lst h1 (by simp) (h2.down (fun a ha => by simp at ha) h)
    · cases h
  | non => exact .non
  | bl b => exact .bl b
  | int i => exact .int i
  | str x => exact .str x
  | tup a b c => exact RV.down (rho := rho) (fun a ha => by simp at ha) (.tup a b c) h
  | lst a b c => exact RV.down (rho := rho) (fun a ha => by simp at ha) (.lst a b c) h
  | scr a b => cases h
  | fn a => exact .fn a
theorem rs_non {d : D} (h : rs s d = .non) : d = .non := by
  cases d <;> simp only [rs] at h <;> first | rfl | (cases h; done) | skip
  split at h <;> cases h
/-- as they stand, or with the lists of the store read -/
theorem cmpS_rv {o : Cop} {x y : V} {d e : D} {k : Bool} (S : StR g.fa rho H s) (r1 : RV g.fa rho H x d) (r2 : RV g.fa rho H y e) (h : cmpS o d e s = some k) : ∃ r3 d1 d2, RV g.fa r3 H x d1 ∧ RV g.fa r3 H y d2 ∧ cmpD o d1 d2 = some k := by
  unfold cmpS at h
  cases h1 : cmpD o d e with
  | some z =>
    rw [h1] at h
    cases h
    exact ⟨rho, d, e, r1, r2, h1⟩
  | none =>
    rw [h1] at h
    have h : cmpD o (rs s d) (rs s e) = some k := h
    have c : clean (rs s d) = true ∧ clean (rs s e) = true := by
      cases o with
      | eq => exact eqD_clean h
      | ne =>
        simp only [cmpD] at h
        split at h
        · rename_i z ez
          exact eqD_clean ez
        · cases h
      | mem => exact memD_clean h
      | nmem =>
        simp only [cmpD] at h
        split at h
        · rename_i z ez
          exact memD_clean ez
        · cases h
      | lt =>
        generalize rs s d = a at h ⊢
        generalize rs s e = b at h ⊢
        cases a <;> cases b <;> simp only [cmpD, reduceCtorEq] at h <;> first | exact ⟨rfl, rfl⟩ | skip
        unfold ltD at h
        split at h
        · rename_i e1 e2
          exact ⟨toPs_clean e1, toPs_clean e2⟩
        · cases h
      | le =>
        generalize rs s d = a at h ⊢
        generalize rs s e = b at h ⊢
        cases a <;> cases b <;> simp only [cmpD, reduceCtorEq] at h <;> exact ⟨rfl, rfl⟩
      | gt =>
        generalize rs s d = a at h ⊢
        generalize rs s e = b at h ⊢
        cases a <;> cases b <;> simp only [cmpD, reduceCtorEq] at h <;> exact ⟨rfl, rfl⟩
      | ge =>
        generalize rs s d = a at h ⊢
        generalize rs s e = b at h ⊢
        cases a <;> cases b <;> simp only [cmpD, reduceCtorEq] at h <;> exact ⟨rfl, rfl⟩
      | isn =>
        exfalso
        have he : rs s e = .non := by
          generalize rs s d = a at h
          generalize rs s e = b at h
          cases b <;> simp only [cmpD, reduceCtorEq] at h
          rfl
        rw [rs_non he] at h1
        cases d <;> simp only [cmpD, reduceCtorEq] at h1
      | notn =>
        exfalso
        have he : rs s e = .non := by
          generalize rs s d = a at h
          generalize rs s e = b at h
          cases b <;> simp only [cmpD, reduceCtorEq] at h
          rfl
        rw [rs_non he] at h1
        cases d <;> simp only [cmpD, reduceCtorEq] at h1
    exact ⟨[], _, _, rs_rv S r1 c.1, rs_rv S r2 c.2, h⟩
/-- the two ways of a test -/
theorem cmp_read {a b : Expr} {op : CmpOp} {o : Cop} {ca cb : C} {p : Pos} {n : Nat} {gl : Str → Option D} (hu : X.A.units + 65 < cLine) (ho : copOf op = some o) (hb : plainE b = true) (h1 : PE X a (tE g W (evE cf gl n) ca)) (h2 : PE X b (tE g W (evE cf gl n) cb)) :
    PE X (.Compare a [op] [b] p) (tE g W (evE cf gl (n + 1)) (.cmp o ca cb)) ∧ PT X (.Compare a [op] [b] p) (tT g W (evE cf gl (n + 1)) (.cmp o ca cb)) := by
  refine ⟨PE.imp (pe_cmpR (op_cmpD (g := g) hu ho) h1 h2 (nomarkP hb op)) fun σ H Q ⟨rho, e0, s, E, S, q⟩ => ?_, PT.imp (pt_cmpR (op_cmpD (g := g) hu ho) h1 h2 (nomarkP hb op)) fun σ H Q ⟨rho, e0, s, E, S, q⟩ => ?_⟩
  · refine ⟨rho, e0, s, E, S, Po.bind q fun v s1 r1 H1 x _ E1 S1 R1 q1 => ⟨r1, e0, s1, E.mono E1, S1, Po.bind q1 fun w s2 r2 H2 y _ E2 S2 R2 q2 => ?_⟩⟩
    split at q2
    · rename_i k ek
      obtain ⟨r3, d1, d2, R3, R4, ek⟩ := cmpS_rv S2 (R1.mono E2) R2 ek
      exact ⟨r3, d1, d2, k, R3, R4, ek, q2.val S2 (.bl k)⟩
    · exact q2.elim
  · have q : Po g (fun c d H => W c d σ H) rho H (fun _ _ (x v : Bool) => x = v) ((evE cf gl n ca e0 s).bind fun x s1 => ((evE cf gl n cb e0 s1).bind fun y s2 => match cmpS o x y s2 with
        | some k => Bw.R.ok k s2
        | none => .fail)) Q := by
      have e : evT (evE cf gl (n + 1)) (.cmp o ca cb) e0 s = ((evE cf gl n ca e0 s).bind fun x s1 => ((evE cf gl n cb e0 s1).bind fun y s2 => match cmpS o x y s2 with
        | some k => Bw.R.ok k s2
        | none => .fail)) := by
        simp only [evT, evE]
        cases evE cf gl n ca e0 s with
        | ok v s1 =>
          simp only [R.bind]
          cases evE cf gl n cb e0 s1 with
          | ok w s2 =>
            simp only [R.bind]
            cases cmpS o v w s2 <;> rfl
          | exc k s2 => rfl
          | fail => rfl
        | exc k s1 => rfl
        | fail => rfl
      rw [e] at q
      exact q
    refine ⟨rho, e0, s, E, S, Po.bind q fun v s1 r1 H1 x _ E1 S1 R1 q1 => ⟨r1, e0, s1, E.mono E1, S1, Po.bind q1 fun w s2 r2 H2 y _ E2 S2 R2 q2 => ?_⟩⟩
    split at q2
    · rename_i k ek
      obtain ⟨r3, d1, d2, R3, R4, ek⟩ := cmpS_rv S2 (R1.mono E2) R2 ek
      exact ⟨r3, d1, d2, k, R3, R4, ek, k, rfl, q2.val S2 rfl⟩
    · exact q2.elim
theorem chain_read {a b d : Expr} {op op' : CmpOp} {o o' : Cop} {ca cb cd : C} {p : Pos} {n : Nat} {gl : Str → Option D} (hu : X.A.units + 65 < cLine) (ho : copOf op = some o) (ho' : copOf op' = some o') (hb : plainE b = true) (hd : plainE d = true) (h1 : PE X a (tE g W (evE cf gl n) ca)) (h2 : PE X b (tE g W (evE cf gl n) cb)) (h3 : PE X d (tE g W (evE cf gl n) cd)) :
    PE X (.Compare a [op, op'] [b, d] p) (tE g W (evE cf gl (n + 1)) (.chain o o' ca cb cd)) ∧ PT X (.Compare a [op, op'] [b, d] p) (tT g W (evE cf gl (n + 1)) (.chain o o' ca cb cd)) := by
  refine ⟨PE.imp (pe_chain (op_cmpD (g := g) hu ho) (op_cmpD (g := g) hu ho') h1 h2 h3 (marksP hd op')) fun σ H Q ⟨rho, e0, s, E, S, q⟩ => ?_, PT.imp (pt_chain (op_cmpD (g := g) hu ho) (op_cmpD (g := g) hu ho') h1 h2 h3 (marksP hd op')) fun σ H Q ⟨rho, e0, s, E, S, q⟩ => ?_⟩
  · refine ⟨rho, e0, s, E, S, Po.bind q fun v s1 r1 H1 x _ E1 S1 R1 q1 => ⟨r1, e0, s1, E.mono E1, S1, Po.bind q1 fun w s2 r2 H2 y _ E2 S2 R2 q2 => ?_⟩⟩
    split at q2
    · rename_i ek
      refine ⟨r2, v, w, true, R1.mono E2, R2, ek, true, rfl, iteT ⟨r2, e0, s2, (E.mono E1).mono E2, S2, Po.bind q2 fun z s3 r3 H3 zv _ E3 S3 R3 q3 => ?_⟩⟩
      split at q3
      · rename_i k ek3
        exact ⟨r3, w, z, k, R2.mono E3, R3, ek3, q3.val S3 (.bl k)⟩
      · exact q3.elim
    · rename_i ek
      exact ⟨r2, v, w, false, R1.mono E2, R2, ek, false, rfl, iteF (q2.val S2 (.bl false))⟩
    · exact q2.elim
  · have q : Po g (fun c d H => W c d σ H) rho H (fun _ _ (x v : Bool) => x = v) ((evE cf gl n ca e0 s).bind fun x s1 => ((evE cf gl n cb e0 s1).bind fun y s2 => match cmpD o x y with
        | some true => ((evE cf gl n cd e0 s2).bind fun z s3 => match cmpD o' y z with
          | some k => Bw.R.ok k s3
          | none => .fail)
        | some false => .ok false s2
        | none => .fail)) Q := by
      have e : evT (evE cf gl (n + 1)) (.chain o o' ca cb cd) e0 s = ((evE cf gl n ca e0 s).bind fun x s1 => ((evE cf gl n cb e0 s1).bind fun y s2 => match cmpD o x y with
        | some true => ((evE cf gl n cd e0 s2).bind fun z s3 => match cmpD o' y z with
          | some k => Bw.R.ok k s3
          | none => .fail)
        | some false => .ok false s2
        | none => .fail)) := by
        simp only [evT, evE]
        cases evE cf gl n ca e0 s with
        | ok v s1 =>
          simp only [R.bind]
          cases evE cf gl n cb e0 s1 with
          | ok w s2 =>
            simp only [R.bind]
            cases cmpD o v w with
            | none => rfl
            | some k =>
              cases k with
              | false => rfl
              | true =>
                simp only
                cases evE cf gl n cd e0 s2 with
                | ok z s3 =>
                  simp only [R.bind]
                  cases cmpD o' w z <;> rfl
                | exc k s3 => rfl
                | fail => rfl
          | exc k s2 => rfl
          | fail => rfl
        | exc k s1 => rfl
        | fail => rfl
      rw [e] at q
      exact q
    refine ⟨rho, e0, s, E, S, Po.bind q fun v s1 r1 H1 x _ E1 S1 R1 q1 => ⟨r1, e0, s1, E.mono E1, S1, Po.bind q1 fun w s2 r2 H2 y _ E2 S2 R2 q2 => ?_⟩⟩
    split at q2
    · rename_i ek
      refine ⟨r2, v, w, true, R1.mono E2, R2, ek, true, rfl, iteT ⟨r2, e0, s2, (E.mono E1).mono E2, S2, Po.bind q2 fun z s3 r3 H3 zv _ E3 S3 R3 q3 => ?_⟩⟩
      split at q3
      · rename_i k ek3
        exact ⟨r3, w, z, k, R2.mono E3, R3, ek3, k, rfl, q3.val S3 rfl⟩
      · exact q3.elim
    · rename_i ek
      exact ⟨r2, v, w, false, R1.mono E2, R2, ek, false, rfl, iteF ⟨false, rfl, q2.val S2 rfl⟩⟩
    · exact q2.elim
abbrev trueR (s : Sto) (x : D) : R Bool := match truth s x with
  | some b => .ok b s
  | none => .fail
/-- and, or, as tests -/
def tL (g : Gd) (W : WX) (r : En → Sto → R D) : TT := fun σ H Q => ∃ rho e s, EnR g.fa rho H e σ ∧ StR g.fa rho H s ∧ Po g (fun c d H => W c d σ H) rho H (fun _ _ (x v : Bool) => x = v) ((r e s).bind fun x s1 => trueR s1 x) Q
theorem PW.imp {e : Expr} {t t' : TT} (h : PW X e t) (k : ∀ σ H Q, t' σ H Q → t σ H Q) : PW X e t' := ⟨fun wh pins s σ H Q I q => h.run wh pins s σ H Q I (k σ H Q q)⟩
theorem andL_eq (cc d : C) (cs : List C) (e : En) (s : Sto) : ((evAnd ev (cc :: d :: cs) e s).bind fun x s1 => trueR s1 x) = (evT ev cc e s).bind fun b s1 => match b with
    | true => (evAnd ev (d :: cs) e s1).bind fun x s1 => trueR s1 x
    | false => .ok false s1 := by
  simp only [evAnd, evT]
  cases ev cc e s with
  | fail => rfl
  | exc k s1 => rfl
  | ok v s1 =>
    simp only [R.bind]
    cases ht : truth s1 v with
    | none => rfl
    | some b =>
      cases b with
      | true => rfl
      | false => simp only [R.bind, trueR, ht]
theorem orL_eq (cc d : C) (cs : List C) (e : En) (s : Sto) : ((evOr ev (cc :: d :: cs) e s).bind fun x s1 => trueR s1 x) = (evT ev cc e s).bind fun b s1 => match b with
    | false => (evOr ev (d :: cs) e s1).bind fun x s1 => trueR s1 x
    | true => .ok true s1 := by
  simp only [evOr, evT]
  cases ev cc e s with
  | fail => rfl
  | exc k s1 => rfl
  | ok v s1 =>
    simp only [R.bind]
    cases ht : truth s1 v with
    | none => rfl
    | some b =>
      cases b with
      | false => rfl
      | true => simp only [R.bind, trueR, ht]
theorem pw_andL {f : Expr → C} (ih : ∀ e, PT X e (tT g W ev (f e))) {p : Pos} : ∀ {e : Expr} {es : List Expr}, PW X (.BoolOp .And (e :: es) p) (tL g W (evAnd ev ((e :: es).map f)))
  | e, [] => PW.imp (pw_and1 (ih e)) fun σ H Q h => h
  | e, d :: es => by
    refine PW.imp (pw_and (ih e) (pw_andL ih (e := d) (es := es))) fun σ H Q ⟨rho, e0, s, E, S, q⟩ => ?_
    rw [List.map_cons, List.map_cons, andL_eq] at q
    refine ⟨rho, e0, s, E, S, Po.bind q fun v s1 r1 H1 x _ E1 S1 R1 q1 => ?_⟩
    subst R1
    cases x with
    | true => exact iteT ⟨r1, e0, s1, E.mono E1, S1, q1⟩
    | false => exact iteF (q1.val S1 rfl)
theorem pw_orL {f : Expr → C} (ih : ∀ e, PT X e (tT g W ev (f e))) {p : Pos} : ∀ {e : Expr} {es : List Expr}, PW X (.BoolOp .Or (e :: es) p) (tL g W (evOr ev ((e :: es).map f)))
  | e, [] => PW.imp (pw_or1 (ih e)) fun σ H Q h => h
  | e, d :: es => by
    refine PW.imp (pw_or (ih e) (pw_orL ih (e := d) (es := es))) fun σ H Q ⟨rho, e0, s, E, S, q⟩ => ?_
    rw [List.map_cons, List.map_cons, orL_eq] at q
    refine ⟨rho, e0, s, E, S, Po.bind q fun v s1 r1 H1 x _ E1 S1 R1 q1 => ?_⟩
    subst R1
    cases x with
    | true => exact iteT (q1.val S1 rfl)
    | false => exact iteF ⟨r1, e0, s1, E.mono E1, S1, q1⟩
/-- and, or, as values -/
def tV (g : Gd) (W : WX) (r : En → Sto → R D) : TE := fun σ H Q => ∃ rho e s, EnR g.fa rho H e σ ∧ StR g.fa rho H s ∧ Po g (fun c d H => W c d σ H) rho H (RV g.fa) (r e s) Q
theorem pe_andL {f : Expr → C} (ih : ∀ e, PE X e (tE g W ev (f e))) {p : Pos} : ∀ {e : Expr} {es : List Expr}, PE X (.BoolOp .And (e :: es) p) (tV g W (evAnd ev ((e :: es).map f)))
  | e, [] => PE.imp (pe_one (ih e)) fun σ H Q h => h
  | e, d :: es => by
    refine PE.imp (pe_andT (ih e) (pe_andL ih (e := d) (es := es))) fun σ H Q ⟨rho, e0, s, E, S, q⟩ => ?_
    refine ⟨rho, e0, s, E, S, Po.bind (f := fun x s1 => match truth s1 x with
      | some true => evAnd ev ((d :: es).map f) e0 s1
      | some false => .ok x s1
      | none => .fail) q fun v s1 r1 H1 x _ E1 S1 R1 q1 => ?_⟩
    cases ht : truth s1 v with
    | none => rw [ht] at q1; exact q1.elim
    | some b =>
      rw [ht] at q1
      refine ⟨b, tru_of S1 R1 ht, ?_⟩
      cases b with
      | true => exact iteT ⟨r1, e0, s1, E.mono E1, S1, q1⟩
      | false => exact iteF (q1.val S1 R1)
theorem pe_orL {f : Expr → C} (ih : ∀ e, PE X e (tE g W ev (f e))) {p : Pos} : ∀ {e : Expr} {es : List Expr}, PE X (.BoolOp .Or (e :: es) p) (tV g W (evOr ev ((e :: es).map f)))
  | e, [] => PE.imp (pe_one (ih e)) fun σ H Q h => h
  | e, d :: es => by
    refine PE.imp (pe_orT (ih e) (pe_orL ih (e := d) (es := es))) fun σ H Q ⟨rho, e0, s, E, S, q⟩ => ?_
    refine ⟨rho, e0, s, E, S, Po.bind (f := fun x s1 => match truth s1 x with
      | some false => evOr ev ((d :: es).map f) e0 s1
      | some true => .ok x s1
      | none => .fail) q fun v s1 r1 H1 x _ E1 S1 R1 q1 => ?_⟩
    cases ht : truth s1 v with
    | none => rw [ht] at q1; exact q1.elim
    | some b =>
      rw [ht] at q1
      refine ⟨b, tru_of S1 R1 ht, ?_⟩
      cases b with
      | true => exact iteT (q1.val S1 R1)
      | false => exact iteF ⟨r1, e0, s1, E.mono E1, S1, q1⟩
/-- not -/
theorem not_read {a : Expr} {ca : C} {p : Pos} {n : Nat} {gl : Str → Option D} (h1 : PE X a (tE g W (evE cf gl n) ca)) (h2 : PT X a (tT g W (evE cf gl n) ca)) :
    PE X (.UnaryOp .Not a p) (tE g W (evE cf gl (n + 1)) (.not ca)) ∧ PT X (.UnaryOp .Not a p) (tT g W (evE cf gl (n + 1)) (.not ca)) := by
  refine ⟨PE.imp (pe_notT h1) fun σ H Q ⟨rho, e0, s, E, S, q⟩ => ?_, PT.imp (pt_not h2) fun σ H Q ⟨rho, e0, s, E, S, q⟩ => ?_⟩
  · have q : Po g (fun c d H => W c d σ H) rho H (RV g.fa) (((evE cf gl n ca e0 s).bind fun x s1 => trueR s1 x).bind fun b s1 => .ok (.bl (!b)) s1) Q := q
    rw [R.assoc] at q
    refine ⟨rho, e0, s, E, S, Po.bind q fun v s1 r1 H1 x _ E1 S1 R1 q1 => ?_⟩
    cases ht : truth s1 v with
    | none => simp only [trueR, ht] at q1; exact q1.elim
    | some b =>
      simp only [trueR, ht] at q1
      exact ⟨b, tru_of S1 R1 ht, Po.val (show Po g _ r1 H1 (RV g.fa) (Bw.R.ok (.bl (!b)) s1) Q from q1) S1 (.bl _)⟩
  · have e : evT (evE cf gl (n + 1)) (.not ca) e0 s = (evT (evE cf gl n) ca e0 s).bind fun b s1 => .ok (!b) s1 := by
      show ((evT (evE cf gl n) ca e0 s).bind fun b s1 => Bw.R.ok (D.bl (!b)) s1).bind _ = _
      rw [R.assoc]
      rfl
    rw [e] at q
    refine ⟨rho, e0, s, E, S, Po.bind q fun v s1 r1 H1 x _ E1 S1 R1 q1 => ?_⟩
    subst R1
    exact q1.val S1 rfl
/-- a if t else b -/
theorem pt_ifE {t a b : Expr} {p : Pos} {tt ta tb : TT} (ht : PT X t tt) (ha : PT X a ta) (hb : PT X b tb) : PT X (.IfExp t a b p) (fun σ H Q => tt σ H fun k H1 => if k = true then ta σ H1 Q else tb σ H1 Q) := by
  refine ⟨fun pins s σ H Q I h => ?_⟩
  show wpAny _ _ (do if ← isTrue t X.env (eval t X.env) then isTrue a X.env (eval a X.env) else isTrue b X.env (eval b X.env)) _ _ _
  refine wpAny_bind (thn (ht.run pins s σ H _ I h) fun k s1 ⟨H1, I1, q1⟩ => ?_)
  cases k with
  | true => exact ha.run pins s1 σ H1 Q I1 q1
  | false => exact hb.run pins s1 σ H1 Q I1 q1
theorem ife_read {t a b : Expr} {ct ca cb : C} {p : Pos} {n : Nat} {gl : Str → Option D} (h0 : PT X t (tT g W (evE cf gl n) ct)) (h1 : PE X a (tE g W (evE cf gl n) ca)) (h2 : PE X b (tE g W (evE cf gl n) cb)) (h3 : PT X a (tT g W (evE cf gl n) ca)) (h4 : PT X b (tT g W (evE cf gl n) cb)) :
    PE X (.IfExp t a b p) (tE g W (evE cf gl (n + 1)) (.ife ct ca cb)) ∧ PT X (.IfExp t a b p) (tT g W (evE cf gl (n + 1)) (.ife ct ca cb)) := by
  refine ⟨PE.imp (pe_ifExp h0 h1 h2) fun σ H Q ⟨rho, e0, s, E, S, q⟩ => ?_, PT.imp (pt_ifE h0 h3 h4) fun σ H Q ⟨rho, e0, s, E, S, q⟩ => ?_⟩
  · refine ⟨rho, e0, s, E, S, Po.bind q fun v s1 r1 H1 x _ E1 S1 R1 q1 => ?_⟩
    subst R1
    cases x with
    | true => exact iteT ⟨r1, e0, s1, E.mono E1, S1, q1⟩
    | false => exact iteF ⟨r1, e0, s1, E.mono E1, S1, q1⟩
  · have e : evT (evE cf gl (n + 1)) (.ife ct ca cb) e0 s = (evT (evE cf gl n) ct e0 s).bind fun k s1 => match k with
        | true => evT (evE cf gl n) ca e0 s1
        | false => evT (evE cf gl n) cb e0 s1 := by
      show ((evT (evE cf gl n) ct e0 s).bind fun k s1 => match k with
        | true => evE cf gl n ca e0 s1
        | false => evE cf gl n cb e0 s1).bind _ = _
      rw [R.assoc]
      congr 1
      funext k s1
      cases k <;> rfl
    rw [e] at q
    refine ⟨rho, e0, s, E, S, Po.bind q fun v s1 r1 H1 x _ E1 S1 R1 q1 => ?_⟩
    subst R1
    cases x with
    | true => exact iteT ⟨r1, e0, s1, E.mono E1, S1, q1⟩
    | false => exact iteF ⟨r1, e0, s1, E.mono E1, S1, q1⟩
end
end Bw

set_option Elab.async false
set_option linter.all false
set_option maxRecDepth 100000
set_option maxHeartbeats 4000000
/-! Bw: all expressions -/
namespace Bw
open PySem PySem.Spec PyProof.Rows L2
section
variable {g : Gd} {c : Cfg} {N : List Str} {cf : CF} {j : Nat} {X : Cx} {sc : Scope} {W : WX} {rho rho' : List Addr} {H H' : Hp} {s : Sto} {σ : L2.St} {Q : VK} {ev : C → En → Sto → R D}
theorem bi_read (F : Fit g c N cf j X sc W) {x : Str} {m : Bool} {f : Bi} {p pos : Pos} {e : Expr} {es : List Expr} {cs : List C} {n : Nat} {gl : Str → Option D} (hb : biOf x m = some f) (hl : sc.names.lookup x = some .globalImplicit) (hx : x ∈ c.blt) (h1 : plainE e = true) (he : es.all plainE = true)
    (ha : PA X (e :: es) (tA g W (evE cf gl n) cs)) : PE X (.Call (.Name x p) (e :: es) [] pos) (tE g W (evE cf gl (n + 1)) (.bi f cs)) := by
  refine PE.imp (pe_bi (g := g) hb F.calm F.units (F.gl hl) (F.blt x hx) ha (star_cons h1 es X.env) (star_any he pos X.env)) fun σ H Q ⟨rho, e0, s, E, S, q⟩ => ?_
  exact ⟨rho, e0, s, E, S, Po.bind q fun vs s1 r1 H1 xs _ E1 S1 R1 q1 => ⟨_, r1, vs, s1, S1, R1, q1⟩⟩
theorem isi_read1 (F : Fit g c N cf j X sc W) {p p2 pos : Pos} {e : Expr} {y : Str} {ts : List Ty} {ce : C} {n : Nat} {gl : Str → Option D} (hl : sc.names.lookup ("isinstance" : Str) = some .globalImplicit) (hx : ("isinstance" : Str) ∈ c.blt) (h1 : plainE e = true) (ht : tyL c sc [.Name y p2] = some ts)
    (he : PE X e (tE g W (evE cf gl n) ce)) : PE X (.Call (.Name "isinstance" p) [e, .Name y p2] [] pos) (tE g W (evE cf gl (n + 1)) (.isi ce ts)) := by
  have hp := pa_ty (X := X) (c := c) (sc := sc) (fun x hx n => F.free hx n) F.sc ht
  obtain ⟨t, rfl⟩ : ∃ t, ts = [t] := by
    unfold tyL at ht
    split at ht
    · split at ht
      · rename_i t us e1 e2
        cases ht
        cases e2
        exact ⟨t, rfl⟩
      · cases ht
    · cases ht
  have ha : PA X [e, .Name y p2] (tCons (tE g W (evE cf gl n) ce) fun _ H Q => Q [V.ty t.nm] H) := pa_cons he hp (star_cons h1 _ X.env)
  refine PE.imp (pe_callB call_isi (F.gl hl) (F.free hx (by decide)) (by decide +kernel) ha (by decide) (by decide) (star_cons h1 _ X.env) rfl) fun σ H Q ⟨rho, e0, s, E, S, q⟩ => ?_
  refine ⟨rho, e0, s, E, S, Po.bind q fun v s1 r1 H1 x _ E1 S1 R1 q1 => ?_⟩
  split at q1
  · rename_i b eb
    obtain ⟨tt, k1, k2, k3⟩ := kit_D (K := X.K) S1 R1 eb (fun i hi => by subst hi; exact ref_in S1 R1)
    exact ⟨x, .ty t.nm, tt, .type t.nm, b, rfl, .ty _, k1, k3 t rfl, q1.val S1 (.bl b)⟩
  · exact q1.elim
theorem tyL_plain : ∀ {es : List Expr} {ts : List Ty}, tyL c sc es = some ts → es.all plainE = true ∧ ts.length = es.length
  | [], _, h => by cases h; exact ⟨rfl, rfl⟩
  | e :: es, ts, h => by
    cases e <;> first | (cases h; done) | skip
    unfold tyL at h
    split at h
    · split at h
      · rename_i t us e1 e2
        cases h
        obtain ⟨i1, i2⟩ := tyL_plain e2
        exact ⟨by rw [List.all_cons, i1]; rfl, congrArg Nat.succ i2⟩
      · cases h
    · cases h
theorem isi_readT (F : Fit g c N cf j X sc W) {p p2 pos : Pos} {kk : Nat} {e : Expr} {ys : List Expr} {ts : List Ty} {ce : C} {n : Nat} {gl : Str → Option D} (hl : sc.names.lookup ("isinstance" : Str) = some .globalImplicit) (hx : ("isinstance" : Str) ∈ c.blt) (h1 : plainE e = true) (ht : tyL c sc ys = some ts) (hn : ts.length ≤ lim)
    (he : PE X e (tE g W (evE cf gl n) ce)) : PE X (.Call (.Name "isinstance" p) [e, .Tuple ys kk p2] [] pos) (tE g W (evE cf gl (n + 1)) (.isi ce ts)) := by
  have hp := pa_ty (X := X) (c := c) (sc := sc) (fun x hx n => F.free hx n) F.sc ht
  have ha : PA X [e, .Tuple ys kk p2] (tCons (tE g W (evE cf gl n) ce) (tCons (tTup fun _ H Q => Q (ts.map fun t => V.ty t.nm) H) tNil)) := pa_cons he (pa_cons (pe_tup hp) pa_nil (star_cons rfl _ X.env)) (star_cons h1 _ X.env)
  refine PE.imp (pe_callB call_isiT (F.gl hl) (F.free hx (by decide)) (by decide +kernel) ha (by decide) (by decide) (star_cons h1 _ X.env) rfl) fun σ H Q ⟨rho, e0, s, E, S, q⟩ => ?_
  refine ⟨rho, e0, s, E, S, Po.bind q fun v s1 r1 H1 x _ E1 S1 R1 q1 => ?_⟩
  split at q1
  · rename_i b eb
    refine ⟨by rw [List.length_map, ← lim_eq]; exact hn, fun tp hn => ?_⟩
    have S2 : StR g.fa r1 (upd H1 tp (.tup (ts.map fun t => V.ty t.nm))) s1 := S1.laid hn
    have R2 := R1.mono (Evo.laid (rho := r1) (o := .tup (ts.map fun t => V.ty t.nm)) hn)
    obtain ⟨tt, k1, k2, k3⟩ := kit_D (K := X.K) S2 R2 eb (fun i hi => by subst hi; exact ref_in S1 R1)
    exact ⟨x, tp, ts.map fun t => V.ty t.nm, tt, ts.map fun t => Value.type t.nm, b, rfl, upd_same, paired_ty ts, k1, k2, q1 r1 _ _ (Evo.laid hn) S2 (.bl b)⟩
  · exact q1.elim
/-- a part of a slice -/
def tO (g : Gd) (W : WX) (ev : C → En → Sto → R D) (o : Option C) : TO := fun σ H Q => ∃ rho e s, EnR g.fa rho H e σ ∧ StR g.fa rho H s ∧ Po g (fun c d H => W c d σ H) rho H (fun _ _ (x v : Option Int) => x = v) (evO ev o e s) Q
theorem PO.imp {e : Option Expr} {t t' : TO} (h : PO X e t) (k : ∀ σ H Q, t' σ H Q → t σ H Q) : PO X e t' := ⟨fun pins s σ H Q I q => h.run pins s σ H Q I (k σ H Q q)⟩
theorem po_of {f : Expr → C} (ih : ∀ e, PE X e (tE g W ev (f e))) : ∀ o : Option Expr, PO X o (tO g W ev (match o with
    | none => none
    | some e => some (f e)))
  | none => PO.imp po_none fun σ H Q ⟨rho, e0, s, E, S, q⟩ => q.val S rfl
  | some e => PO.imp (po_some (ih e)) fun σ H Q ⟨rho, e0, s, E, S, q⟩ => by
    refine ⟨rho, e0, s, E, S, Po.bind q fun v s1 r1 H1 x _ E1 S1 R1 q1 => ?_⟩
    cases R1 <;> first | exact q1.elim | skip
    exact ⟨_, rfl, q1.val S1 rfl⟩
theorem sl_read {a : Expr} {lo hi : Option Expr} {p p2 : Pos} {ca : C} {cl ch : Option C} {n : Nat} {gl : Str → Option D} (h1 : PE X a (tE g W (evE cf gl n) ca)) (h2 : PO X lo (tO g W (evE cf gl n) cl)) (h3 : PO X hi (tO g W (evE cf gl n) ch)) :
    PE X (.Subscript a (.Slice lo hi none p2) p) (tE g W (evE cf gl (n + 1)) (.sl ca cl ch)) := by
  refine PE.imp (pe_slice (sl_D (g := g)) h1 h2 h3) fun σ H Q ⟨rho, e0, s, E, S, q⟩ => ?_
  refine ⟨rho, e0, s, E, S, Po.bind q fun v s1 r1 H1 x _ E1 S1 R1 q1 => ⟨r1, e0, s1, E.mono E1, S1, Po.bind q1 fun l s2 r2 H2 y _ E2 S2 R2 q2 => ⟨r2, e0, s2, (E.mono E1).mono E2, S2, Po.bind q2 fun h s3 r3 H3 z _ E3 S3 R3 q3 => ?_⟩⟩⟩
  subst R2 R3
  exact ⟨_, r3, v, s3, S3, (R1.mono E2).mono E3, q3⟩
theorem ix_read {a i : Expr} {p : Pos} {ca ci : C} {n : Nat} {gl : Str → Option D} (hs : PlainIx i) (h1 : PE X a (tE g W (evE cf gl n) ca)) (h2 : PE X i (tE g W (evE cf gl n) ci)) : PE X (.Subscript a i p) (tE g W (evE cf gl (n + 1)) (.ix ca ci)) := by
  refine PE.imp (pe_ix (ix_D (g := g)) h1 h2 hs) fun σ H Q ⟨rho, e0, s, E, S, q⟩ => ?_
  refine ⟨rho, e0, s, E, S, Po.bind q fun v s1 r1 H1 x _ E1 S1 R1 q1 => ⟨r1, e0, s1, E.mono E1, S1, Po.bind q1 fun l s2 r2 H2 y _ E2 S2 R2 q2 => ?_⟩⟩
  exact ⟨_, r2, v, l, s2, S2, R1.mono E2, R2, q2⟩
theorem bin_read {a b : Expr} {op : Operator} {o : Bop} {p : Pos} {ca cb : C} {n : Nat} {gl : Str → Option D} (ho : bopOf op = some o) (h1 : PE X a (tE g W (evE cf gl n) ca)) (h2 : PE X b (tE g W (evE cf gl n) cb)) : PE X (.BinOp a op b p) (tE g W (evE cf gl (n + 1)) (.bin o ca cb)) := by
  refine PE.imp (pe_op (op_binD (g := g) ho) h1 h2) fun σ H Q ⟨rho, e0, s, E, S, q⟩ => ?_
  refine ⟨rho, e0, s, E, S, Po.bind q fun v s1 r1 H1 x _ E1 S1 R1 q1 => ⟨r1, e0, s1, E.mono E1, S1, Po.bind q1 fun l s2 r2 H2 y _ E2 S2 R2 q2 => ?_⟩⟩
  exact ⟨_, r2, v, l, s2, S2, R1.mono E2, R2, q2⟩
theorem binL_read {a b : Expr} {p : Pos} {ca cb : C} {n : Nat} {gl : Str → Option D} (h1 : PE X a (tE g W (evE cf gl n) ca)) (h2 : PE X b (tE g W (evE cf gl n) cb)) : PE X (.BinOp a .Add b p) (tE g W (evE cf gl (n + 1)) (.bin .addL ca cb)) := by
  refine PE.imp (pe_op (op_addL (g := g)) h1 h2) fun σ H Q ⟨rho, e0, s, E, S, q⟩ => ?_
  refine ⟨rho, e0, s, E, S, Po.bind q fun v s1 r1 H1 x _ E1 S1 R1 q1 => ⟨r1, e0, s1, E.mono E1, S1, Po.bind q1 fun l s2 r2 H2 y _ E2 S2 R2 q2 => ?_⟩⟩
  exact ⟨_, r2, v, l, s2, S2, R1.mono E2, R2, q2⟩
theorem neg_read {a : Expr} {p : Pos} {ca : C} {n : Nat} {gl : Str → Option D} (h1 : PE X a (tE g W (evE cf gl n) ca)) : PE X (.UnaryOp .USub a p) (tE g W (evE cf gl (n + 1)) (.neg ca)) := by
  refine PE.imp (pe_un un_neg h1) fun σ H Q ⟨rho, e0, s, E, S, q⟩ => ?_
  refine ⟨rho, e0, s, E, S, Po.bind q fun v s1 r1 H1 x _ E1 S1 R1 q1 => ?_⟩
  cases R1 <;> first | exact q1.elim | skip
  exact ⟨_, rfl, q1.val S1 (.int _)⟩
theorem tup_read {es : List Expr} {kk : Nat} {p : Pos} {cs : List C} {n : Nat} {gl : Str → Option D} (h1 : PA X es (tA g W (evE cf gl n) cs)) : PE X (.Tuple es kk p) (tE g W (evE cf gl (n + 1)) (.tup cs)) := by
  refine PE.imp (pe_tup h1) fun σ H Q ⟨rho, e0, s, E, S, q⟩ => ?_
  refine ⟨rho, e0, s, E, S, Po.bind q fun v s1 r1 H1 x _ E1 S1 R1 q1 => ?_⟩
  split at q1
  · rename_i hl
    exact ⟨by rw [R1.length, ← lim_eq]; exact hl, mk_tup q1 S1 R1⟩
  · exact q1.elim
theorem lst_read {es : List Expr} {p : Pos} {cs : List C} {m : Bool} {n : Nat} {gl : Str → Option D} (h1 : PA X es (tA g W (evE cf gl n) cs)) : PE X (.List es p) (tE g W (evE cf gl (n + 1)) (.lst m cs)) := by
  refine PE.imp (pe_lst h1) fun σ H Q ⟨rho, e0, s, E, S, q⟩ => ?_
  refine ⟨rho, e0, s, E, S, Po.bind q fun v s1 r1 H1 x _ E1 S1 R1 q1 => ?_⟩
  exact ⟨by rw [R1.length]; exact mkL_len q1, mkL_ok q1 S1 R1⟩
theorem rngD_V {xs : List V} {vs : List D} {zs : List Int} (r : RVs g.fa rho H xs vs) (h : rngD vs = some zs) : rngV xs = some zs := by
  unfold rngD at h
  split at h
  · cases r with
    | cons r1 rr =>
      cases rr
      cases r1
      exact h
  · cases r with
    | cons r1 rr =>
      cases rr with
      | cons r2 rr =>
        cases rr
        cases r1
        cases r2
        exact h
  · cases r with
    | cons r1 rr =>
      cases rr with
      | cons r2 rr =>
        cases rr with
        | cons r3 rr =>
          cases rr
          cases r1
          cases r2
          cases r3
          exact h
  · cases h
theorem rng_read (F : Fit g c N cf j X sc W) {x y : Str} {a : Expr} {as : List Expr} {p p2 pos pos2 : Pos} {m : Bool} {cs : List C} {n : Nat} {gl : Str → Option D} (hx : x = "list" ∨ x = "tuple") (hl : sc.names.lookup x = some .globalImplicit) (hb : x ∈ c.blt) (hy : y = "range") (hyl : sc.names.lookup y = some .globalImplicit) (hyb : y ∈ c.blt)
    (h1 : plainE a = true) (h2 : as.all plainE = true) (ha : PA X (a :: as) (tA g W (evE cf gl n) cs)) : PE X (.Call (.Name x p2) [.Call (.Name y p) (a :: as) [] pos] [] pos2) (tE g W (evE cf gl (n + 1)) (.rng (decide (x = "tuple")) m cs)) := by
  subst hy
  have hn : x = if decide (x = "tuple") then "tuple" else "list" := by
    rcases hx with rfl | rfl
    · rfl
    · rfl
  have hf : X.mg x = none := by
    rcases hx with rfl | rfl
    · exact F.free hb (by decide)
    · exact F.free hb (by decide)
  refine PE.imp (pe_rng hn F.calm (F.gl hl) hf (F.gl hyl) (F.free hyb (by decide)) ha (star_cons h1 as X.env) (star_any h2 pos X.env)) fun σ H Q ⟨rho, e0, s, E, S, q⟩ => ?_
  refine ⟨rho, e0, s, E, S, Po.bind q fun vs s1 r1 H1 xs _ E1 S1 R1 q1 => ?_⟩
  split at q1
  · rename_i zs ez
    refine ⟨zs, rngD_V R1 ez, ?_⟩
    cases ht : decide (x = ("tuple" : Str)) with
    | true =>
      rw [ht] at q1
      exact mk_tup q1 S1 (RVs.ofInts zs)
    | false =>
      rw [ht] at q1
      exact mkL_ok q1 S1 (RVs.ofInts zs)
  · exact q1.elim
/-! ### what is gone over -/
theorem it_one (F : Fit g c N cf j X sc W) (ih : ∀ m e, PE X e (tE g W ev (cE c N m sc e))) : ∀ (m : Nat) (e tg : Expr), PI X tg e (tI g W ev (cI c N m sc e tg))
  | 0, e, tg => PI.none fun σ H R ⟨_, _, _, _, _, q⟩ => q
  | m + 1, e, tg => by
    unfold cI
    split
    · -- one argument
      rename_i x p a q
      split
      · rename_i hx
        obtain ⟨h1, h2, h3, h4⟩ := hx
        have ha : PA X [a] (tCons (tE g W ev (cE c N m sc a)) tNil) := pa_cons (ih m a) pa_nil (star_cons h3 _ X.env)
        split
        · rename_i hr
          subst hr
          refine PI.imp (pi_range1 (F.gl h1) (F.free h2 (by decide)) ha (by rw [star_cons h3]; rfl)) fun σ H R ⟨rho, e0, s, E, S, q⟩ => ?_
          refine ⟨rho, e0, s, E, S, Po.bind q fun v s1 r1 H1 x _ E1 S1 R1 q1 => ?_⟩
          obtain ⟨i, rfl, rfl⟩ : ∃ i, v = .int i ∧ x = .int i := by cases R1 <;> first | exact q1.elim | exact ⟨_, rfl, rfl⟩
          simp only [rangeD] at q1
          split at q1
          · rename_i xs ex
            split at ex
            · rename_i hb
              cases ex
              obtain ⟨b1, b2, b3, b4⟩ := of_decide_eq_true hb
              refine ⟨i, rfl, b3, b4, q1.val S1 ?_⟩
              have e1 : (i - 0).toNat = i.toNat := by omega
              rw [e1]
              exact gs_range
            · cases ex
          · exact q1.elim
        · split
          · rename_i hr
            subst hr
            refine PI.imp (RT.pi_revA (F.gl h1) (F.free h2 (by decide)) (ih m a) (star_cons h3 _ X.env)) fun σ H R ⟨rho, e0, s, E, S, q⟩ => ?_
            refine ⟨rho, e0, s, E, S, Po.bind q fun v s1 r1 H1 x _ E1 S1 R1 q1 => ?_⟩
            cases R1 with
            | tup h2 n2 r2 => exact ⟨_, _, rfl, .inr ⟨SqT.of h2, q1.val S1 (gs_revT h2 n2 r2)⟩⟩
            | lst h2 n2 r2 => exact ⟨_, _, rfl, .inl ⟨SqL.of h2, q1.val S1 (gs_revL h2 n2 r2)⟩⟩
            | @ref i a hi =>
              simp only at q1
              split at q1
              · rename_i lk xs e
                obtain ⟨ys, h3, r3⟩ := S1.some hi e
                refine ⟨_, _, rfl, .inl ⟨SqL.of h3, q1.val S1 ?_⟩⟩
                rw [r3.length, ← List.length_reverse]
                exact gs_revR hi
              · exact q1.elim
            | _ => exact q1.elim
          · split
            · rename_i hr
              subst hr
              split
              · refine PI.imp (pi_enu1 (F.gl h1) (F.free h2 (by decide)) ha (by rw [star_cons h3]; rfl)) fun σ H R ⟨rho, e0, s, E, S, q⟩ => ?_
                refine ⟨rho, e0, s, E, S, Po.bind q fun v s1 r1 H1 x _ E1 S1 R1 q1 => ?_⟩
                cases R1 with
                | lst h2 n2 r2 => exact ⟨false, _, _, rfl, SqL.of h2, q1.val S1 (gs_enuW (b := false) h2 n2 r2)⟩
                | tup h2 n2 r2 => exact ⟨true, _, _, rfl, SqT.of h2, q1.val S1 (gs_enuW (b := true) h2 n2 r2)⟩
                | @ref i a hi =>
                  simp only at q1
                  split at q1
                  · rename_i xs ex
                    obtain ⟨a2, ys, e2, h3, hh⟩ := isL_hold (l := wit (.ref i) xs) S1 (RV.ref (fa := g.fa) (H := H1) hi) ex (fun p hp => hp)
                    cases e2
                    exact ⟨false, _, _, rfl, SqL.of h3, q1.val S1 (gs_enuH hh)⟩
                  · exact q1.elim
                | _ => exact q1.elim
              · exact PI.none fun σ H R ⟨_, _, _, _, _, q⟩ => q
            · exact pi_sq (ih m _)
      · exact pi_sq (ih m _)
    · -- two arguments
      rename_i x p a b q
      split
      · rename_i hx
        obtain ⟨h1, h2, h3, h4, h5⟩ := hx
        have ha : PA X [a, b] (tCons (tE g W ev (cE c N m sc a)) (tCons (tE g W ev (cE c N m sc b)) tNil)) := pa_cons (ih m a) (pa_cons (ih m b) pa_nil (star_cons h4 _ X.env)) (star_cons h3 _ X.env)
        split
        · rename_i hr
          subst hr
          refine PI.imp (pi_range2 (F.gl h1) (F.free h2 (by decide)) ha (by rw [star_cons h3, star_cons h4]; rfl) (by rw [star_cons h4]; rfl)) fun σ H R ⟨rho, e0, s, E, S, q⟩ => ?_
          refine ⟨rho, e0, s, E, S, Po.bind q fun v s1 r1 H1 x _ E1 S1 R1 q1 => ⟨r1, e0, s1, E.mono E1, S1, Po.bind q1 fun w s2 r2 H2 y _ E2 S2 R2 q2 => ?_⟩⟩
          obtain ⟨i, k, rfl, rfl, rfl, rfl⟩ : ∃ i k, v = .int i ∧ w = .int k ∧ x = .int i ∧ y = .int k := by
            cases R1 <;> first | (cases R2 <;> exact q2.elim) | skip
            cases R2 <;> first | exact q2.elim | exact ⟨_, _, rfl, rfl, rfl, rfl⟩
          simp only [rangeD] at q2
          split at q2
          · rename_i xs ex
            split at ex
            · rename_i hb
              cases ex
              exact ⟨i, k, rfl, of_decide_eq_true hb, q2.val S2 gs_range⟩
            · cases ex
          · exact q2.elim
        · split
          · rename_i hr
            subst hr
            split
            · refine PI.imp (pi_zM (F.gl h1) (F.free h2 (by decide)) ha (by rw [star_cons h3, star_cons h4]) (star_any (by simp [h4]) q X.env)) fun σ H R ⟨rho, e0, s, E, S, q⟩ => ?_
              refine ⟨rho, e0, s, E, S, Po.bind q fun v s1 r1 H1 x _ E1 S1 R1 q1 => ⟨r1, e0, s1, E.mono E1, S1, Po.bind q1 fun w s2 r2 H2 y _ E2 S2 R2 q2 => ?_⟩⟩
              have go : ∀ (src : Src) (l : List (Nat × List D)) (xs ys : List D), (∀ n k d s, chk src n k d s = true → chkA l s = true) → items s2 v = some xs → items s2 w = some ys → (∀ p ∈ wit v xs, p ∈ l) → (∀ p ∈ wit w ys, p ∈ l) → Po g (fun c d H => W c d σ H) r2 H2 (Gs g) (Bw.R.ok (src, zipD xs ys) s2) R →
                  ∃ b1 b2 a b l m, [x, y] = [V.ref a, V.ref b] ∧ Sb X.K b1 a H2 l ∧ Sb X.K b2 b H2 m ∧ R (ItzM X.K b1 b2 a b) H2 := by
                intro src l xs ys hs i1 i2 m1 m2 q3
                obtain ⟨b1, a, us, rfl, g1, k1⟩ := items_hold (l := l) S2 (R1.mono E2) i1 m1
                obtain ⟨b2, b, vs, rfl, g2, k2⟩ := items_hold (l := l) S2 R2 i2 m2
                exact ⟨b1, b2, a, b, us, vs, rfl, sq_sb g1, sq_sb g2, q3.val S2 (gs_zipM hs k1 k2)⟩
              have gen : Po g (fun c d H => W c d σ H) r2 H2 (Gs g) (match items s2 v, items s2 w with
                  | some xs, some ys => Bw.R.ok (some (0, .all (wit v xs ++ wit w ys)), zipD xs ys) s2
                  | _, _ => .fail) R → ∃ b1 b2 a b l m, [x, y] = [V.ref a, V.ref b] ∧ Sb X.K b1 a H2 l ∧ Sb X.K b2 b H2 m ∧ R (ItzM X.K b1 b2 a b) H2 := by
                intro q3
                split at q3
                · rename_i xs ys e1 e2
                  exact go (some (0, .all (wit v xs ++ wit w ys))) (wit v xs ++ wit w ys) xs ys (fun _ _ _ _ h => h) e1 e2 (fun p hp => List.mem_append_left _ hp) (fun p hp => List.mem_append_right _ hp) q3
                · exact q3.elim
              cases v with
              | tup xs =>
                cases w with
                | tup ys => exact go none [] xs ys (fun _ _ _ _ _ => rfl) rfl rfl (fun p hp => by cases hp) (fun p hp => by cases hp) q2
                | _ => exact gen q2
              | lst xs =>
                cases w with
                | lst ys => exact go none [] xs ys (fun _ _ _ _ _ => rfl) rfl rfl (fun p hp => by cases hp) (fun p hp => by cases hp) q2
                | _ => exact gen q2
              | _ => cases w <;> exact gen q2
            · exact PI.none fun σ H R ⟨_, _, _, _, _, q⟩ => q
          · split
            · rename_i hr
              subst hr
              split
              · refine PI.imp (pi_enu2 (F.gl h1) (F.free h2 (by decide)) ha (by rw [star_cons h3, star_cons h4]) (star_any (by simp [h4]) q X.env)) fun σ H R ⟨rho, e0, s, E, S, q⟩ => ?_
                refine ⟨rho, e0, s, E, S, Po.bind q fun v s1 r1 H1 x _ E1 S1 R1 q1 => ⟨r1, e0, s1, E.mono E1, S1, Po.bind q1 fun w s2 r2 H2 y _ E2 S2 R2 q2 => ?_⟩⟩
                cases R2 <;> first | exact q2.elim | skip
                rename_i k _
                cases R1 with
                | lst a1 n1 t1 =>
                  simp only at q2
                  split at q2
                  · rename_i hk
                    obtain ⟨k0, k1⟩ := of_decide_eq_true hk
                    obtain ⟨z, rfl⟩ : ∃ z : Nat, k = (z : Nat) := ⟨k.toNat, by omega⟩
                    exact ⟨false, _, _, _, rfl, by omega, by omega, SqL.of (E2.same _ _ a1 n1), q2.val S2 (gs_enuW (b := false) (E2.same _ _ a1 n1) (E2.out a1 n1) (t1.mono E2))⟩
                  · exact q2.elim
                | tup a1 n1 t1 =>
                  simp only at q2
                  split at q2
                  · rename_i hk
                    obtain ⟨k0, k1⟩ := of_decide_eq_true hk
                    obtain ⟨z, rfl⟩ : ∃ z : Nat, k = (z : Nat) := ⟨k.toNat, by omega⟩
                    exact ⟨true, _, _, _, rfl, by omega, by omega, SqT.of (E2.same _ _ a1 n1), q2.val S2 (gs_enuW (b := true) (E2.same _ _ a1 n1) (E2.out a1 n1) (t1.mono E2))⟩
                  · exact q2.elim
                | _ => exact q2.elim
              · exact PI.none fun σ H R ⟨_, _, _, _, _, q⟩ => q
            · exact pi_sq (ih m _)
      · exact pi_sq (ih m _)
    · exact pi_sq (ih m _)
end
end Bw

set_option Elab.async false
set_option linter.all false
set_option maxRecDepth 100000
set_option maxHeartbeats 4000000
/-! Bw: sets of a tuple's numbers, places, the least of several or another, a list from its end -/
namespace Bw
open PySem PySem.Spec PyProof.Rows L2
section
variable {g : Gd} {c : Cfg} {N : List Str} {cf : CF} {j : Nat} {X : Cx} {sc : Scope} {W : WX} {rho rho' : List Addr} {H H' : Hp} {s : Sto} {σ : L2.St} {Q : VK} {ev : C → En → Sto → R D} {n : Nat} {gl : Str → Option D}
theorem setI_at {K : PySem.W.Frag} {v : V} {d : D} {l : List Int} (r : RV g.fa rho H v d) (h : setI d = some l) : ∃ a, v = .ref a ∧ SqT K H a (l.map V.int) ∧ l.length < 1000 := by
  cases r <;> simp only [setI, reduceCtorEq] at h
  rename_i a xs ds h1 n1 r1
  split at h
  · rename_i l' e
    split at h
    · rename_i hl
      cases h
      refine ⟨a, rfl, ?_, hl⟩
      rw [← r1.getI e]
      exact SqT.of h1
    · cases h
  · cases h
theorem sset1_read (F : Fit g c N cf j X sc W) {p p2 p3 p4 : Pos} {a : Expr} {ca : C} (hl : sc.names.lookup ("sorted" : Str) = some .globalImplicit) (hx : ("sorted" : Str) ∈ c.blt) (hl2 : sc.names.lookup ("set" : Str) = some .globalImplicit) (hx2 : ("set" : Str) ∈ c.blt) (h1 : plainE a = true)
    (ha : PE X a (tE g W (evE cf gl n) ca)) : PE X (.Call (.Name "sorted" p) [.Call (.Name "set" p2) [a] [] p3] [] p4) (tE g W (evE cf gl (n + 1)) (.sset1 ca)) := by
  have hs : starEach [a] X.env = (false, eval a X.env) :: starEach [] X.env := star_cons h1 _ X.env
  refine PE.imp (pe_callB (cr_sortedSet F.calm) (F.gl hl) (F.free hx (by decide)) (by decide +kernel) (pa_cons (pe_callTy (cr_setTI F.calm) (F.gl hl2) (F.free hx2 (by decide)) (by decide +kernel) (pa_cons ha pa_nil hs) (by decide) (by decide) hs rfl) pa_nil) (by decide) (by decide) rfl rfl) fun σ H Q ⟨rho, e0, s, E, S, q⟩ => ?_
  refine ⟨rho, e0, s, E, S, Po.bind q fun v s1 r1 H1 x _ E1 S1 R1 q1 => ?_⟩
  split at q1
  · rename_i l el
    split at q1
    · rename_i h64
      obtain ⟨t, rfl, hq, hb⟩ := setI_at (K := X.K) R1 el
      refine ⟨t, l, rfl, hq, hb, fun pp np => ⟨pp, _, _, rfl, upd_same, h64, fun ns p' asc mem _ np' => ?_⟩⟩
      have e : ns = srtU l := asc_eq asc (srtU_pw l) fun k => by rw [mem k, srtU_mem]; simp
      subst e
      exact mkL_ok (q1.base (Evo.laid np)) (S1.laid np) (RVs.ofInts _) p' np'
    · exact q1.elim
  · exact q1.elim
theorem lset_read (F : Fit g c N cf j X sc W) {p p2 p3 p4 : Pos} {a : Expr} {ca : C} (hl : sc.names.lookup ("len" : Str) = some .globalImplicit) (hx : ("len" : Str) ∈ c.blt) (hl2 : sc.names.lookup ("set" : Str) = some .globalImplicit) (hx2 : ("set" : Str) ∈ c.blt) (h1 : plainE a = true)
    (ha : PE X a (tE g W (evE cf gl n) ca)) : PE X (.Call (.Name "len" p) [.Call (.Name "set" p2) [a] [] p3] [] p4) (tE g W (evE cf gl (n + 1)) (.lset ca)) := by
  have hs : starEach [a] X.env = (false, eval a X.env) :: starEach [] X.env := star_cons h1 _ X.env
  refine PE.imp (pe_callB cr_lenSet (F.gl hl) (F.free hx (by decide)) (by decide +kernel) (pa_cons (pe_callTy (cr_setTI F.calm) (F.gl hl2) (F.free hx2 (by decide)) (by decide +kernel) (pa_cons ha pa_nil hs) (by decide) (by decide) hs rfl) pa_nil) (by decide) (by decide) rfl rfl) fun σ H Q ⟨rho, e0, s, E, S, q⟩ => ?_
  refine ⟨rho, e0, s, E, S, Po.bind q fun v s1 r1 H1 x _ E1 S1 R1 q1 => ?_⟩
  split at q1
  · rename_i l el
    obtain ⟨t, rfl, hq, hb⟩ := setI_at (K := X.K) R1 el
    exact ⟨t, l, rfl, hq, hb, fun pp np => ⟨pp, _, _, rfl, upd_same, q1 r1 _ _ (Evo.laid np) (S1.laid np) (.int _)⟩⟩
  · exact q1.elim
theorem rvs_read {a : Expr} {k : Nat} {p1 p2 p3 pos : Pos} {ca : C} (ha : PE X a (tE g W (evE cf gl n) ca)) : PE X (.Subscript a (.Slice none none (some (.UnaryOp .USub (.Constant (.int 1) k p1) p2)) p3) pos) (tE g W (evE cf gl (n + 1)) (.rvs ca)) := by
  refine PE.imp (pe_revL ha) fun σ H Q ⟨rho, e0, s, E, S, q⟩ => ?_
  exact ⟨rho, e0, s, E, S, Po.bind q fun v s1 r1 H1 x _ E1 S1 R1 q1 => rvs_ok S1 R1 q1⟩
theorem index_read (F : Fit g c N cf j X sc W) {o e : Expr} {ap cp : Pos} {co ce : C} (ho : PE X o (tE g W (evE cf gl n) co)) (he : PE X e (tE g W (evE cf gl n) ce)) (hp : plainE e = true) (hl : ap.endLine = cp.line) (hb : attributeBase o "index" X.env (eval o X.env) = eval o X.env) :
    PE X (.Call (.Attribute o "index" ap) [e] [] cp) (tE g W (evE cf gl (n + 1)) (.meth .index co ce)) := by
  have hs1 : starEach [e] X.env = (false, eval e X.env) :: starEach [] X.env := star_cons hp [] X.env
  refine PE.imp (pe_bm PySem.F.plainAttrs_list PySem.F.slot_list_index PySem.F.type_list_index (mt_indexD F.units) ho (pa_cons he pa_nil hs1) hb (by rw [hs1]; rfl) (by rw [hl]; simp) hs1 rfl) fun σ H Q ⟨rho, e0, s, E, S, q⟩ => ?_
  refine ⟨rho, e0, s, E, S, Po.bind q fun v s1 r1 H1 x _ E1 S1 R1 q1 => ?_⟩
  split at q1
  · rename_i l0 e0'
    obtain ⟨a, xs, rfl, h1, _⟩ := isL_at S1 R1 e0'
    refine ⟨.inl ⟨rfl, xs, SqL.of h1⟩, r1, e0, s1, E.mono E1, S1, Po.bind q1 fun w s2 r2 H2 y _ E2 S2 R2 q2 => ?_⟩
    unfold methD at q2
    simp only at q2
    split at q2
    · rename_i ds eds
      obtain ⟨a', ys, ea, h2, t2⟩ := isL_at S2 (R1.mono E2) eds
      cases ea
      split at q2
      · rename_i ps qd e1 e2
        split at q2
        · rename_i hsh
          rw [Bool.and_eq_true] at hsh
          split at q2
          · rename_i k ek
            obtain ⟨_, ⟨z, hz, hzq⟩, hno⟩ := idxP_ok ek
            exact ⟨a, y, qd, ps, k, z, rfl, rfl, .lst (SqL.of h2) (t2.dp (K := X.K) e1), R2.dp (K := X.K) e2, hsh.1, hsh.2, by simpa using hz, hzq, fun m z' hm hz' => hno m z' (by simpa using hm) hz', q2.val S2 (.int _)⟩
          · exact q2.elim
        · exact q2.elim
      · exact q2.elim
    · exact q2.elim
  · exact q1.elim
theorem mind_read (F : Fit g c N cf j X sc W) {p pos : Pos} {e : Expr} {kw : Keyword} {ce cd : C} {ks : List Str} (hk : kwNames [kw] = some ks) (hks : ks = [("default" : Str)]) (hl : sc.names.lookup ("min" : Str) = some .globalImplicit) (hx : ("min" : Str) ∈ c.blt) (hp : plainE e = true)
    (he : PE X e (tE g W (evE cf gl n) ce)) (hd : PE X kw.value (tE g W (evE cf gl n) cd)) : PE X (.Call (.Name "min" p) [e] [kw] pos) (tE g W (evE cf gl (n + 1)) (.mind ce cd)) := by
  have hs : starEach [e] X.env = (false, eval e X.env) :: starEach [] X.env := star_cons hp _ X.env
  subst hks
  obtain ⟨i1, i2, i3⟩ := kw_all (env := X.env) (pos := pos) hk
  obtain ⟨x, ke, kp⟩ := kw
  refine PE.imp (pe_callBK (cr_mind (g := g) F.calm F.units) (F.gl hl) (F.free hx (by decide)) (by decide +kernel) (pa_cons he pa_nil hs) (pk_cons hd pk_nil) (by decide) (by decide) (by rw [hs]; rfl) (by rw [hs]; rfl) i1 i3 i2) fun σ H Q ⟨rho, e0, s, E, S, q⟩ => ?_
  refine ⟨rho, e0, s, E, S, Po.bind q fun v s1 r1 H1 x _ E1 S1 R1 q1 => ⟨r1, e0, s1, E.mono E1, S1, Po.bind q1 fun w s2 r2 H2 y _ E2 S2 R2 q2 => ?_⟩⟩
  exact ⟨_, r2, v, w, s2, x, y, S2, R1.mono E2, R2, rfl, rfl, q2⟩
end
end Bw

set_option Elab.async false
set_option linter.all false
set_option maxRecDepth 100000
set_option maxHeartbeats 4000000
/-! Bw: all expressions, by the clock -/
namespace Bw
open PySem PySem.Spec PyProof.Rows L2
section
variable {g : Gd} {c : Cfg} {N : List Str} {cf : CF} {j : Nat}
theorem pe_step {n : Nat} (ih : Ih g c N cf j (evE cf g.gl n)) : ∀ (X : Cx) (sc : Scope) (W : WX) (m : Nat) (e : Expr), Fit g c N cf j X sc W → PE X e (tE g W (evE cf g.gl (n + 1)) (cE c N m sc e))
  | X, sc, W, 0, e, F => pe_bad
  | X, sc, W, m + 1, e, F => by
    have q : ∀ e, PE X e (tE g W (evE cf g.gl n) (cE c N m sc e)) := fun e => ih.pe X sc W m e F
    have qt : ∀ e, PT X e (tT g W (evE cf g.gl n) (cE c N m sc e)) := fun e => ih.pt X sc W m e F
    have hu := F.units
    unfold cE
    split
    case h_1 => exact cst_read pe_non fun _ _ => .non
    case h_2 => exact cst_read pe_bl fun _ _ => .bl _
    case h_3 => exact cst_read pe_int fun _ _ => .int _
    case h_4 => exact cst_read pe_str fun _ _ => .str _
    case h_5 =>
      rename_i x p
      split
      · rename_i ok
        split
        · rename_i hl
          split
          · rename_i i hi
            exact var_read F (.inl hl) hi ok
          · exact pe_bad
        · rename_i hl
          split
          · rename_i i hi
            exact var_read F (.inr (.inl hl)) hi ok
          · exact pe_bad
        · rename_i hl
          split
          · rename_i i hi
            exact var_read F (.inr (.inr hl)) hi ok
          · exact pe_bad
        · rename_i hl
          split
          · rename_i hx
            exact glb_read F ok hl hx
          · split
            · rename_i k hk
              exact fnv_read F ok hl hk
            · exact pe_bad
        · exact pe_bad
      · exact pe_bad
    case h_6 =>
      split
      · rename_i hh
        obtain ⟨h1, _⟩ := hh
        subst h1
        exact binL_read (q _) (q _)
      · split
        · rename_i o ho
          exact bin_read ho (q _) (q _)
        · exact pe_bad
    case h_7 => exact neg_read (q _)
    case h_8 => exact (not_read (q _) (qt _)).1
    case h_9 =>
      rename_i es p
      cases es with
      | nil => exact PE.none fun σ H Q ⟨_, _, _, _, _, z⟩ => z
      | cons e es => exact PE.imp (pe_andL q) fun σ H Q z => z
    case h_10 =>
      rename_i es p
      cases es with
      | nil => exact PE.none fun σ H Q ⟨_, _, _, _, _, z⟩ => z
      | cons e es => exact PE.imp (pe_orL q) fun σ H Q z => z
    case h_11 => exact (ife_read (qt _) (q _) (q _) (qt _) (qt _)).1
    case h_12 =>
      split
      · rename_i o ho
        split
        · rename_i hb
          exact (cmp_read hu ho hb (q _) (q _)).1
        · exact pe_bad
      · exact pe_bad
    case h_13 =>
      split
      · rename_i o o' ho ho'
        split
        · rename_i hb
          rw [Bool.and_eq_true] at hb
          exact (chain_read hu ho ho' hb.1 hb.2 (q _) (q _) (q _)).1
        · exact pe_bad
      · exact pe_bad
    case h_14 =>
      split
      · rename_i he
        exact tup_read (pa_map q he)
      · exact pe_bad
    case h_15 =>
      split
      · rename_i he
        exact lst_read (pa_map q he)
      · exact pe_bad
    case h_16 => exact sl_read (q _) (po_of q _) (po_of q _)
    case h_17 => exact rvs_read (q _)
    case h_18 =>
      rename_i a i p hs hs2
      refine ix_read (fun o k => ?_) (q _) (q _)
      cases i <;> first | rfl | skip
      rename_i lo hi st p2
      cases st with
      | none => exact absurd rfl (hs lo hi p2)
      | some st => rfl
    case h_19 =>
      rename_i elt tg iter scope p
      split
      · rename_i own ho
        split
        · rename_i hb
          rw [Bool.and_eq_true] at hb
          refine PE.imp (pe_lc F.calm (by rw [F.hN]; exact F.nd) (it_one F (fun m e => ih.pe X sc W m e F) m iter tg) (by rw [F.hN, F.sc]; exact blkOk_by hb.1) (g := tG g (evE cf g.gl n) (Own (own.map (·.2))) (cT N m (relS scope sc) (own.map (·.2)) tg)) (tt := tYes) (te := tE g (fun _ _ _ _ => False) (evE cf g.gl n) (cE c N m (relS scope sc) elt))
            (fun s H C cl fp => cT_ok (F.blk s H scope cl C fp).hN F.nd (F.blk s H scope cl C fp).sc (F.blk s H scope cl C fp).calm (own_cell ho hb.1 (fun _ h => h)) m tg) (fun _ _ _ _ _ => pts_nil) (fun s H C cl fp => ih.pe _ _ _ m elt (F.blk s H scope cl C fp)) (fun x => fold_plain hb.2 X.env x)) fun σ H Q z => ?_
          exact lc_read (ifs := none) (fun _ _ _ z => z) σ H Q z
        · exact pe_bad
      · exact pe_bad
    case h_20 =>
      rename_i elt tg iter ie scope p
      split
      · rename_i own ho
        split
        · rename_i hb
          rw [Bool.and_eq_true] at hb
          refine PE.imp (pe_lc F.calm (by rw [F.hN]; exact F.nd) (it_one F (fun m e => ih.pe X sc W m e F) m iter tg) (by rw [F.hN, F.sc]; exact blkOk_by hb.1) (g := tG g (evE cf g.gl n) (Own (own.map (·.2))) (cT N m (relS scope sc) (own.map (·.2)) tg)) (tt := tT g (fun _ _ _ _ => False) (evE cf g.gl n) (cE c N m (relS scope sc) ie)) (te := tE g (fun _ _ _ _ => False) (evE cf g.gl n) (cE c N m (relS scope sc) elt))
            (fun s H C cl fp => cT_ok (F.blk s H scope cl C fp).hN F.nd (F.blk s H scope cl C fp).sc (F.blk s H scope cl C fp).calm (own_cell ho hb.1 (fun _ h => h)) m tg) (fun s H C cl fp => pts_one (ih.pt _ _ _ m ie (F.blk s H scope cl C fp))) (fun s H C cl fp => ih.pe _ _ _ m elt (F.blk s H scope cl C fp)) (fun x => fold_plain hb.2 X.env x)) fun σ H Q z => ?_
          exact lc_read (ifs := some _) (fun _ _ _ z => z) σ H Q z
        · exact pe_bad
      · exact pe_bad
    case h_21 =>
      rename_i elt tg iter tg1 iter1 scope p
      split
      · rename_i own ho
        split
        · rename_i hb
          rw [Bool.and_eq_true, Bool.and_eq_true] at hb
          refine PE.imp (pe_lc2 F.calm (by rw [F.hN]; exact F.nd) (it_one F (fun m e => ih.pe X sc W m e F) m iter tg) (by rw [F.hN, F.sc]; exact blkOk_by hb.1.1) (vs1 := vs1Of N m (relS scope sc) (own.map (·.2)) tg1) (fun i hi => of_decide_eq_true (List.mem_filter.mp hi).2) (g := tG g (evE cf g.gl n) (Own (own.map (·.2))) (cT N m (relS scope sc) (own.map (·.2)) tg)) (tt := tYes)
            (wi1 := tI g (fun _ _ _ _ => False) (evE cf g.gl n) (cI c N m (relS scope sc) iter1 tg1)) (g1 := tG g (evE cf g.gl n) (Own (vs1Of N m (relS scope sc) (own.map (·.2)) tg1)) (cT N m (relS scope sc) (vs1Of N m (relS scope sc) (own.map (·.2)) tg1) tg1)) (tt1 := tYes) (te := tE g (fun _ _ _ _ => False) (evE cf g.gl n) (cE c N m (relS scope sc) elt))
            (fun s H C cl fp => cT_ok (F.blk s H scope cl C fp).hN F.nd (F.blk s H scope cl C fp).sc (F.blk s H scope cl C fp).calm (own_cell ho hb.1.1 (fun _ h => h)) m tg) (fun _ _ _ _ _ => pts_nil) (fun s H C cl fp => it_one (F.blk s H scope cl C fp) (fun m e => ih.pe _ _ _ m e (F.blk s H scope cl C fp)) m iter1 tg1)
            (fun s H C cl fp => cT_ok (F.blk s H scope cl C fp).hN F.nd (F.blk s H scope cl C fp).sc (F.blk s H scope cl C fp).calm (own_cell ho hb.1.1 (fun i hi => of_decide_eq_true (List.mem_filter.mp hi).2)) m tg1) (fun _ _ _ _ _ => pts_nil) (fun s H C cl fp => ih.pe _ _ _ m elt (F.blk s H scope cl C fp)) (fun x => fold_plain hb.1.2 X.env x) (fun env x => fold_plain hb.2 env x)) fun σ H Q z => ?_
          exact lc2_read σ H Q z
        · exact pe_bad
      · exact pe_bad
    case h_22 =>
      rename_i x p e es pos
      split
      · rename_i ok
        simp only [Bool.and_eq_true, decide_eq_true_eq] at ok
        obtain ⟨⟨ok, h1, h2⟩, hl⟩ := ok
        split
        · rename_i k hk
          exact call_read F ok hl hk h1 h2 (pa_map q (es := e :: es) (by rw [List.all_cons, h1, h2]; rfl))
        · split
          · rename_i hx
            split
            · rename_i hi
              subst hi
              split
              · rename_i y p2
                split
                · rename_i ts ht
                  have ht : tyL c sc [.Name y p2] = some ts := by
                    unfold tyL at ht ⊢
                    exact ht
                  exact isi_read1 F hl hx h1 ht (q _)
                · exact pe_bad
              · split
                · rename_i ts ht
                  split
                  · rename_i hn
                    exact isi_readT F hl hx h1 ht hn (q _)
                  · exact pe_bad
                · exact pe_bad
              · exact pe_bad
            · split
              · rename_i hsc
                obtain ⟨hsx, _⟩ := hsc
                subst hsx
                split
                · rename_i elt tg iter scope p2 _
                  split
                  · rename_i own ho
                    split
                    · rename_i hb
                      rw [Bool.and_eq_true] at hb
                      refine PE.imp (pe_callB (cr_sortedSet F.calm) (F.gl hl) (F.free hx (by decide)) (by decide +kernel) (pa_cons (pe_si F.calm (by rw [F.hN]; exact F.nd) (it_one F (fun m e => ih.pe X sc W m e F) m iter tg) (by rw [F.hN, F.sc]; exact blkOk_by hb.1) (gt := tG g (evE cf g.gl n) (Own (own.map (·.2))) (cT N m (relS scope sc) (own.map (·.2)) tg)) (te := tE g (fun _ _ _ _ => False) (evE cf g.gl n) (cE c N m (relS scope sc) elt))
                        (fun s H C cl fp => cT_ok (F.blk s H scope cl C fp).hN F.nd (F.blk s H scope cl C fp).sc (F.blk s H scope cl C fp).calm (own_cell ho hb.1 (fun _ h => h)) m tg) (fun s H C cl fp => ih.pe _ _ _ m elt (F.blk s H scope cl C fp)) (fun x => fold_plain hb.2 X.env x)) pa_nil) (by decide) (by decide) rfl rfl) fun σ H Q z => ss_read z
                    · exact pe_bad
                  · exact pe_bad
                · exact pe_bad
              split
              · rename_i hst
                split
                · rename_i y p2 a pos2 _
                  split
                  · rename_i hy
                    obtain ⟨hy, hyl, hyb, k1⟩ := hy
                    subst hy
                    split
                    · rename_i hxs
                      subst hxs
                      exact sset1_read F hl hx hyl hyb k1 (q _)
                    · rename_i hxs
                      rcases hst.1 with hz | hz
                      · exact absurd hz hxs
                      · subst hz
                        exact lset_read F hl hx hyl hyb k1 (q _)
                  · exact pe_bad
                · exact pe_bad
              split
              · rename_i hrg
                split
                · rename_i y p2 a as pos2 _ _
                  split
                  · rename_i hy
                    obtain ⟨hy, hyl, hyb, k1, k2⟩ := hy
                    exact rng_read F hrg.1 hl hx hy hyl hyb k1 k2 (pa_map q (es := a :: as) (by rw [List.all_cons, k1, k2]; rfl))
                  · exact pe_bad
                · exact pe_bad
              split
              · rename_i f hf
                exact bi_read F hf hl hx h1 h2 (pa_map q (es := e :: es) (by rw [List.all_cons, h1, h2]; rfl))
              · exact pe_bad
          · exact pe_bad
      · split
        · rename_i hh
          simp only [Bool.and_eq_true, decide_eq_true_eq] at hh
          exact callN_read F (es := e :: es) (by rw [List.all_cons, hh.1.1, hh.1.2]; rfl) (q _) q
        · exact pe_bad
    case h_23 =>
      split
      · rename_i ok
        simp only [Bool.and_eq_true, decide_eq_true_eq] at ok
        split
        · rename_i k hk
          exact call_read0 F ok.1 ok.2 hk
        · exact pe_bad
      · exact pe_bad
    case h_24 =>
      rename_i x p es kw kws pos
      split
      · rename_i ok
        simp only [Bool.and_eq_true, decide_eq_true_eq] at ok
        obtain ⟨⟨ok, he⟩, hl⟩ := ok
        split
        · rename_i k ks hk hn
          split
          · rename_i qq hq
            have h1 := List.find?_some hq
            obtain ⟨q1, q2, q3⟩ := of_decide_eq_true h1
            exact callK_read F ok hl hk he hn (List.mem_of_find?_eq_some hq) q1 q2 q3 q
          · exact pe_bad
        · rename_i ks _ hn
          split
          · rename_i hm
            obtain ⟨rfl, hb, hks⟩ := hm
            split
            · rename_i e0
              exact mind_read F hn hks hl hb (by simpa using he) (q _) (q _)
            · exact pe_bad
          · exact pe_bad
        · exact pe_bad
      · exact pe_bad
    case h_25 =>
      split
      · rename_i hh
        simp only [Bool.and_eq_true, decide_eq_true_eq] at hh
        obtain ⟨⟨h1, h2⟩, h3⟩ := hh
        subst h3
        exact index_read F (q _) (q _) h1 h2 rfl
      · exact pe_bad
    case h_26 =>
      split
      · rename_i he
        exact callX_read F he (q _) q
      · exact pe_bad
    case h_27 => exact pe_bad
theorem pt_bad {X : Cx} {W : WX} {e : Expr} {gl : Str → Option D} {n : Nat} : PT X e (tT g W (evE cf gl n) .bad) := PT.none fun σ H Q ⟨_, _, _, _, _, z⟩ => by cases n <;> exact z
theorem pt_step {n : Nat} (ih : Ih g c N cf j (evE cf g.gl n)) : ∀ (X : Cx) (sc : Scope) (W : WX) (m : Nat) (e : Expr), Fit g c N cf j X sc W → PT X e (tT g W (evE cf g.gl (n + 1)) (cE c N m sc e))
  | X, sc, W, 0, e, F => pt_bad
  | X, sc, W, m + 1, e, F => by
    have q : ∀ e, PE X e (tE g W (evE cf g.gl n) (cE c N m sc e)) := fun e => ih.pe X sc W m e F
    have qt : ∀ e, PT X e (tT g W (evE cf g.gl n) (cE c N m sc e)) := fun e => ih.pt X sc W m e F
    have hu := F.units
    have base := pe_step ih X sc W (m + 1) e F
    cases e with
    | UnaryOp op a p =>
      cases op with
      | Not => exact (not_read (q _) (qt _)).2
      | _ => exact pt_plain (fun _ => rfl) base
    | BoolOp op es p =>
      cases op with
      | And =>
        cases es with
        | nil => exact PT.none fun σ H Q ⟨_, _, _, _, _, z⟩ => z
        | cons e es => exact PT.imp (pw_andL qt).pt fun σ H Q z => z
      | Or =>
        cases es with
        | nil => exact PT.none fun σ H Q ⟨_, _, _, _, _, z⟩ => z
        | cons e es => exact PT.imp (pw_orL qt).pt fun σ H Q z => z
    | IfExp t a b p => exact (ife_read (qt _) (q _) (q _) (qt _) (qt _)).2
    | Compare a ops bs p =>
      match ops, bs with
      | [op], [b] =>
        simp only [cE]
        split
        · rename_i o ho
          split
          · rename_i hb
            exact (cmp_read hu ho hb (q _) (q _)).2
          · exact pt_bad
        · exact pt_bad
      | [op, op'], [b, d] =>
        simp only [cE]
        split
        · rename_i o o' ho ho'
          split
          · rename_i hb
            rw [Bool.and_eq_true] at hb
            exact (chain_read hu ho ho' hb.1 hb.2 (q _) (q _) (q _)).2
          · exact pt_bad
        · exact pt_bad
      | [], _ => simp only [cE]; exact pt_bad
      | [_], [] => simp only [cE]; exact pt_bad
      | [_], _ :: _ :: _ => simp only [cE]; exact pt_bad
      | [_, _], [] => simp only [cE]; exact pt_bad
      | [_, _], [_] => simp only [cE]; exact pt_bad
      | [_, _], _ :: _ :: _ :: _ => simp only [cE]; exact pt_bad
      | _ :: _ :: _ :: _, _ => simp only [cE]; exact pt_bad
    | _ => exact pt_plain (fun _ => rfl) base
/-- all expressions -/
theorem sE (g : Gd) (c : Cfg) (N : List Str) (cf : CF) (j : Nat) : ∀ n, Ih g c N cf j (evE cf g.gl n)
  | 0 => ⟨fun X sc W m e F => PE.none fun σ H Q ⟨_, _, _, _, _, z⟩ => z, fun X sc W m e F => PT.none fun σ H Q ⟨_, _, _, _, _, z⟩ => z⟩
  | n + 1 => ⟨pe_step (sE g c N cf j n), pt_step (sE g c N cf j n)⟩
end
end Bw

set_option Elab.async false
set_option linter.all false
set_option maxRecDepth 100000
set_option maxHeartbeats 4000000
/-! Bw: statements -/
namespace Bw
open PySem PySem.Spec PyProof.Rows L2
section
variable {g : Gd} {c : Cfg} {N : List Str} {cf : CF} {j : Nat} {X : Cx} {sc : Scope} {W : WX} {rho rho' : List Addr} {H H' : Hp} {s : Sto} {σ : L2.St} {Q : VK} {ev : C → En → Sto → R D} {D0 : Ends}
structure FitS (g : Gd) (c : Cfg) (N : List Str) (cf : CF) (j : Nat) (X : Cx) (sc : Scope) (W : WX) : Prop extends Fit g c N cf j X sc W where
  fn : ∀ x, X.fn x = true
  stk : X.stack = X.env :: X.outer
  frm : X.env.frame = some X.env.locals
  exm : ∀ x ∈ c.exc, ∀ y ∈ c.exc, ∀ C E, g.cl x = some C → g.cl y = some E → PySem.W.exmOne X.K C E = some (decide (x = y))
  exo : ∀ x ∈ c.exc, ∀ E, X.mg x = some (.ref E) → ExcC X.K E ∧ PySem.W.kitOne X.K (.ref E) (.type "ValueError") = some (decide (x ∈ c.exb)) ∧ PySem.W.kitOne X.K (.ref E) (.type "LookupError") = some (decide (x ∈ c.exl))
  kind : X.env.scope.kind = .function
  exc : ∀ x ∈ c.exc, ∃ C, X.mg x = some (.ref C) ∧ g.cl x = some (.ref C) ∧ PySem.W.excIn X.K C He.veBase "ValueError.__new__" = true ∧ PySem.W.keepIn X.K (.ref C) = true ∧ Raises X (.ref C)
def PoS (g : Gd) (W : WX) (D0 : Ends) (rho : List Addr) (H : Hp) (r : RS) : Prop := match r with
  | .ok .next e s => ∀ rho' H' σ', Evo rho H rho' H' → StR g.fa rho' H' s → EnR g.fa rho' H' e σ' → D0.nx σ' H'
  | .ok .brk e s => ∀ rho' H' σ', Evo rho H rho' H' → StR g.fa rho' H' s → EnR g.fa rho' H' e σ' → D0.bk σ' H'
  | .ok .cnt e s => ∀ rho' H' σ', Evo rho H rho' H' → StR g.fa rho' H' s → EnR g.fa rho' H' e σ' → D0.ct σ' H'
  | .ok (.ret v) _ s => ∀ rho' H' x, Evo rho H rho' H' → StR g.fa rho' H' s → RV g.fa rho' H' x v → D0.rt x H'
  | .exc k e s => ∃ c, g.cl k = some c ∧ ∀ rho' H' σ', Evo rho H rho' H' → StR g.fa rho' H' s → EnR g.fa rho' H' e σ' → W c none σ' H'
  | .fail => False
theorem PoS.base {r : RS} (h : PoS g W D0 rho H r) (e : Evo rho H rho' H') : PoS g W D0 rho' H' r := by
  cases r with
  | fail => exact h
  | exc k e1 s => obtain ⟨c, h1, h2⟩ := h; exact ⟨c, h1, fun r2 H2 σ2 e2 => h2 r2 H2 σ2 (e.trans e2)⟩
  | ok f e1 s =>
    cases f with
    | ret v => exact fun r2 H2 x e2 => h r2 H2 x (e.trans e2)
    | next => exact fun r2 H2 x e2 => h r2 H2 x (e.trans e2)
    | brk => exact fun r2 H2 x e2 => h r2 H2 x (e.trans e2)
    | cnt => exact fun r2 H2 x e2 => h r2 H2 x (e.trans e2)
theorem PoS.to {α β : Type} {Rl : List Addr → Hp → β → α → Prop} {r : R α} {e : En} {f : α → Sto → RS} {Q' : β → Hp → Prop} (E : EnR g.fa rho H e σ) (h : PoS g W D0 rho H (r.to e f))
    (k : ∀ v s1 r1 H1 x, r = .ok v s1 → Evo rho H r1 H1 → StR g.fa r1 H1 s1 → Rl r1 H1 x v → PoS g W D0 r1 H1 (f v s1) → Q' x H1) : Po g (fun c d H => W c d σ H) rho H Rl r Q' := by
  cases r with
  | ok v s => exact fun r1 H1 x e S R => k v s r1 H1 x rfl e S R (PoS.base h e)
  | exc k s => obtain ⟨c, h1, h2⟩ := h; exact ⟨c, h1, fun r2 H2 e2 S2 => h2 r2 H2 σ e2 S2 (E.mono e2)⟩
  | fail => exact h
/-- .. where what is quiet is done -/
theorem PoS.toq {α β : Type} {Wv : Value → Option Addr → Hp → Prop} {Rl : List Addr → Hp → β → α → Prop} {r : R α} {e : En} {f : α → Sto → RS} {Q' : β → Hp → Prop} (h : PoS g W D0 rho H ((quiet r).to e f))
    (hx : ∀ k s, quiet r ≠ .exc k s)
    (k : ∀ v s1 r1 H1 x, r = .ok v s1 → Evo rho H r1 H1 → StR g.fa r1 H1 s1 → Rl r1 H1 x v → PoS g W D0 r1 H1 (f v s1) → Q' x H1) : Po g Wv rho H Rl r Q' := by
  cases r with
  | ok v s => exact fun r1 H1 x e S R => k v s r1 H1 x rfl e S R (PoS.base h e)
  | exc k s => exact h.elim
  | fail => exact h
def tS (g : Gd) (W : WX) (f : En → Sto → RS) : TS := fun D σ H => ∃ rho e s, EnR g.fa rho H e σ ∧ StR g.fa rho H s ∧ PoS g W D rho H (f e s)
theorem PS.imp {e : Stmt} {t t' : TS} (h : PS X e t) (k : ∀ D σ H, t' D σ H → t D σ H) : PS X e t' := ⟨fun pins s σ H D I q => h.run pins s σ H D I (k D σ H q)⟩
theorem PSs.imp {e : List Stmt} {t t' : TS} (h : PSs X e t) (k : ∀ D σ H, t' D σ H → t D σ H) : PSs X e t' := ⟨fun pins s σ H D I q => h.run pins s σ H D I (k D σ H q)⟩
theorem PS.none {e : Stmt} {t : TS} (k : ∀ D σ H, ¬ t D σ H) : PS X e t := ⟨fun _ _ σ H D _ q => (k D σ H q).elim⟩
theorem tS_bad {ev : C → En → Sto → R D} {w n : Nat} {st : Stmt} : PS X st (tS g W (exS ev w n .bad)) := PS.none fun D σ H ⟨_, _, _, _, _, z⟩ => by cases n <;> exact z
abbrev TT : L2.St → L2.St → Prop := fun _ _ => True
theorem TT.keep : Keep TT := ⟨fun _ => trivial, fun _ _ _ _ _ => trivial⟩
theorem cleans_set : ∀ {xs : List D} {v : D} (i : Nat), cleans xs = true → clean v = true → cleans (xs.set i v) = true
  | [], _, _, _, _ => rfl
  | x :: xs, v, 0, h, hv => by
    have q := Bool.and_eq_true_iff.mp (show (clean x && cleans xs) = true from h)
    show (clean v && cleans xs) = true
    rw [hv, q.2]; rfl
  | x :: xs, v, i + 1, h, hv => by
    have q := Bool.and_eq_true_iff.mp (show (clean x && cleans xs) = true from h)
    show (clean x && cleans (xs.set i v)) = true
    rw [q.1, cleans_set i q.2 hv]; rfl
theorem cTS_ok (F : FitS g c N cf j X sc W) (pe : ∀ m e, PE X e (tE g W ev (cE c N m sc e))) : ∀ m e, PG X e (tG g ev TT (cTS c N sc m e))
  | 0, e => PG.none fun v σ H Q h => tG_bad h
  | m + 1, e => by
    have ih := cTS_ok F pe m
    cases e <;> first | exact (PG.none fun v σ H Q h => tG_bad h) | skip
    · -- a place
      rename_i a i p
      simp only [cTS]
      split
      · exact PG.none fun v σ H Q h => tG_bad h
      rename_i hsl
      refine PG.imp (pg_sub (pe m a) (pe m i) set_list (by intro _; cases i <;> first | rfl | (exact absurd rfl hsl))) fun v σ H Q h => ?_
      obtain ⟨rho, d, e, st, E, S, r, h⟩ := h
      have h : Po g (fun _ _ _ => False) rho H (fun rho H σ2 e2 => EnR g.fa rho H e2 σ2 ∧ TT σ σ2) ((ev (cE c N m sc a) e st).bind fun x s1 => (ev (cE c N m sc i) e s1).bind fun k s2 => match x, k with
        | .ref j, .int n => (match sto s2 j n d with
          | some s3 => .ok e s3
          | none => .fail)
        | _, _ => .fail) Q := by cases d <;> exact h
      refine ⟨rho, e, st, E, S, Po.wimp (Wv := fun _ _ _ => False) (Po.bind h fun x s1 r1 H1 xv _ E1 S1 R1 h1 => ⟨r1, e, s1, E.mono E1, S1, Po.wimp (Wv := fun _ _ _ => False) (Po.bind h1 fun k s2 r2 H2 kv _ E2 S2 R2 h2 => ?_) fun _ _ _ z => z.elim⟩) fun _ _ _ z => z.elim⟩
      split at h2
      · rename_i jx n
        split at h2
        · rename_i s3 e3
          unfold sto at e3
          split at e3
          · rename_i xs ex
            split at e3
            · rename_i hc
              split at e3
              · rename_i pl epl
                cases e3
                have R1' := R1.mono E2
                cases R1' with
                | @ref _ ad hi =>
                  cases R2 with
                  | int _ =>
                    obtain ⟨vs, g1, g2, g3⟩ := S2.at_ _ _ _ _ hi ex
                    obtain ⟨S3, E3⟩ := S2.wrote (lk' := false) hi ex (g2.set pl ((r.mono E1).mono E2)) (cleans_set pl g3 hc)
                    exact ⟨ad, vs, _, pl, rfl, rfl, g1, by rw [g2.length]; exact epl, h2 r2 _ _ E3 S3 ⟨((E.mono E1).mono E2).mono E3, trivial⟩⟩
              · cases e3
            · cases e3
          · cases e3
        · exact h2.elim
      · exact h2.elim
    · rename_i x p
      simp only [cTS]
      split
      · rename_i i ei
        split
        · rename_i ho
          have hl : Loc X.env.scope x := by rw [F.sc]; exact ho
          exact PG.imp (pg_name (i := i) (by rw [F.hN]; exact F.nd) (by rw [F.hN]; exact ixOf_ok ei) hl (.inl (F.fn x))) fun v σ H Q h => tG_nm h trivial
        · exact PG.none fun v σ H Q h => tG_bad h
      · exact PG.none fun v σ H Q h => tG_bad h
    · rename_i es k p
      simp only [cTS]
      split
      · rename_i he
        obtain ⟨l1, l2⟩ := asgE_len he X.env
        exact PG.imp (pg_tup F.calm (pgs_of TT.keep ih he) l1 l2) fun v σ H Q h => tG_tup (List.length_map _) h
      · exact PG.none fun v σ H Q h => tG_bad h
/-- a store -/
theorem set_read {ev : C → En → Sto → R D} {w n : Nat} {t : T} {cc : C} {D0 : Ends} {σ : L2.St} {H : Hp} (h : tS g W (exS ev w (n + 1) (.set t cc)) D0 σ H) : tAsg (tE g W ev cc) (tG g ev TT t) D0 σ H := by
  obtain ⟨rho, e, s, E, S, h⟩ := h
  have h : PoS g W D0 rho H ((ev cc e s).to e fun v s1 => (quiet (asg ev t v e s1)).to e fun e1 s2 => .ok .next e1 s2) := h
  refine ⟨rho, e, s, E, S, PoS.to E h fun v s1 r1 H1 x _ E1 S1 R1 h1 => ⟨r1, v, e, s1, E.mono E1, S1, R1, ?_⟩⟩
  generalize asg ev t v e s1 = ra at h1 ⊢
  cases ra with
  | ok e1 s2 => exact fun r2 H2 σ2 E2 S2 R2 => h1 r2 H2 σ2 E2 S2 R2.1
  | exc k s2 =>
    have h1 : False := h1
    exact h1.elim
  | fail => exact h1.elim
theorem blk_fun {env : Env} (h : env.scope.kind = .function) : env.blockKind = .function := by
  unfold Env.blockKind
  rw [h]; rfl
theorem sw_ok {env : Env} {ts vs : List Expr} {k k2 : Nat} {tp p2 : Pos} {r : Option (List Str)} (hk : env.scope.kind = .function) (h : sw env.scope ts vs = some r) : swappedStores [.Tuple ts k tp] (.Tuple vs k2 p2) env = pure r := by
  have hb : (env.blockKind != ScopeKind.function) = false := by rw [blk_fun hk]; rfl
  unfold sw at h
  dsimp only at h
  unfold swappedStores
  dsimp only
  split
  · rename_i g1
    rw [hb, Bool.or_false] at g1
    rw [if_pos g1] at h
    cases h
    rfl
  · rename_i g1
    rw [hb, Bool.or_false] at g1
    rw [if_neg g1] at h
    split
    · rename_i g2
      split at h
      · cases h; rfl
      · rename_i h2
        exact absurd g2 h2
    · rename_i g2
      split at h
      · rename_i h2
        exact absurd h2 g2
      · split
        · rename_i g3
          split at h
          · cases h; rfl
          · rename_i h3
            exact absurd g3 h3
        · rename_i g3
          split at h
          · rename_i h3
            exact absurd h3 g3
          · split
            · rename_i g4
              rw [if_pos g4] at h
              cases h
              rfl
            · rename_i g4
              rw [if_neg g4] at h
              split
              · rename_i g5
                rw [if_pos g5] at h
                cases h
              · rename_i g5
                rw [if_neg g5] at h
                cases h
                rfl
end
end Bw

set_option Elab.async false
set_option linter.all false
set_option maxRecDepth 100000
set_option maxHeartbeats 4000000
/-! Bw: try with several clauses, each by a class as a name -/
namespace Bw
open PySem PySem.Spec PyProof.Rows L2
structure Cz where
  x : Str
  np : Pos
  n : Str
  i : Nat
  c : Value
  ts : Addr → Value → Option Addr → TS
  b : Stmt
  r : List Stmt
  pos : Pos
def Cz.h (z : Cz) : ExceptHandler := .ExceptHandler (some (.Name z.x z.np)) (some z.n) (z.b :: z.r) z.pos
structure Cz.Ok (X : Cx) (z : Cz) : Prop where
  ix : X.N[z.i]? = some z.n
  loc : X.env.kindOf z.n = some .local
  nm : Names X z.x z.c
  su : ∀ (a : Addr) (oe : Obj) (cls : Value) (d : Option Addr) (pn : List (Addr × Obj)), Zc cls d oe → (∃ vs, oe.data = .fields vs) → PSs (X.suite a ((a, oe) :: pn)) (z.b :: z.r) (z.ts a cls d)
def away (D : Ends) (i : Nat) : Ends := { nx := fun τ G => D.nx (τ.set i none) G, rt := D.rt, bk := fun τ G => D.bk (τ.set i none) G, ct := fun τ G => D.ct (τ.set i none) G }
def wCz (K : PySem.W.Frag) (Wo : WX) (D : Ends) : List Cz → WX
  | [], cls, d, σ, H => Wo cls d σ H
  | z :: zs, cls, d, σ, H => ∃ k, PySem.W.exmOne K cls z.c = some k ∧ (k = true → ∀ a, H a = none → z.ts a cls d (away D z.i) (σ.set z.i (some (.ref a))) H) ∧ (k = false → wCz K Wo D zs cls d σ H)
section
variable {X : Cx} {Wo : WX} {pins : List (Addr × Obj)} {D : Ends} {σ : L2.St} {H : Hp} {sI s' : Shared} {h3 : Heap} {a : Addr} {B : Heap} {cls : Value} {d : Option Addr}
theorem caught (ok : X.Ok) (hs : X.stack = X.env :: X.outer) (hf : X.env.frame = some X.env.locals) (hN : X.N.Nodup) (tk : Takes X Wo) (J : Inv X pins σ H sI)
    (nb : ∀ b o, sI.heap.get? b = some o → b ∉ frs X.stack → B.get? b = some o) (up : sI.heap.UpToSlots h3) (os : s'.os = sI.os) (ag : AllBare s'.gens) (na : H a = none)
    (fl : HandSPX.FlyingZ B (X.env :: X.outer) a (Zc cls d) h3) : ∀ zs : List Cz, (∀ z ∈ zs, z.Ok X) → wCz X.K Wo D zs cls d σ H → wpAny (model X.prog X.w) X.A (handleBy (.ref a) X.env (zs.map Cz.h)) (SP X pins D) X.xe { s' with heap := h3 }
  | [], _, w => by
    refine wpAny_handleBy_nil ?_
    obtain ⟨f1, f2, f3, oe, vs, T, oT, tt, he, hz, hd, hv, hT⟩ := id fl
    unfold PySem.passOn
    refine wpAny_bind (wpAny_field he hd hv ?_)
    rw [if_neg (by simp)]
    have out : wpAny (model X.prog X.w) X.A (setFlight (.ref a) X.env.frame) (fun _ s4 => wpAny (model X.prog X.w) X.A (throw (.ref a) : Sem Flow) (SP X pins D) X.xe s4) X.xe { s' with heap := h3 } := by
      rw [hf]
      exact HandSPX.setFlight_upZ fl fun h4 held up4 => wpAny_throw (tk _ _ ⟨a, B, sI, pins, σ, H, cls, d, rfl, J, nb, up.trans up4, .inr (.inr (by rw [hs]; exact held)), na, os, ag, w⟩)
    first
      | exact wpAny_bind (wpAny_pure (wpAny_bind out))
      | exact wpAny_bind out
  | z :: zs, hz, w => by
    have Z := hz z (List.mem_cons_self ..)
    obtain ⟨k, hk, yes, no⟩ := w
    have rest := caught ok hs hf hN tk J nb up os ag na fl zs (fun y hy => hz y (List.mem_cons_of_mem _ hy))
    have J3 : Inv X pins σ H { s' with heap := h3 } := J.landed nb fl.1 up os ag
    have far : ∀ {h : Heap} {o : Obj} {vs : Array Value}, h.FunFrames B (X.env :: X.outer) → h.get? a = some o → o.data = .fields vs → a ∉ frs (X.env :: X.outer) := fun {h o vs} ff e dd hm => by
      obtain ⟨_, o1, e1, bad⟩ := ff.mem hm
      rw [e] at e1
      cases e1
      exact bad _ dd
    obtain ⟨o3, v3, g3, z3, d3⟩ := fl.there
    have nf := far fl.2.2.1 g3 d3
    have n1 : a ≠ X.env.locals := fun q => nf (List.mem_filterMap.mpr ⟨X.env, List.mem_cons_self, by rw [hf, q]⟩)
    have n2 : a ∉ X.fs := fun hm => by
      obtain ⟨e, he, q⟩ := List.mem_filterMap.mp hm
      exact nf (List.mem_filterMap.mpr ⟨e, List.mem_cons_of_mem _ he, q⟩)
    have K3 := J3.suite g3 d3 na n1 n2
    refine wpAny_handleBy_cons (codeAny_handlers_test ?_) (by intro q; cases q)
    have kind : PySem.W.Looks (model X.prog X.w) h3 (typeOf (.ref a)) cls := fun A Q E s keep q => wpAny_typeOf_ref (keep _ _ g3) (by rw [z3.1]; exact q)
    have asked := PySem.W.exm_one (M := model X.prog X.w) (J3.kIn) kind hk
    have name : ∀ {Q : Value → Shared → Prop} {E : Value → Shared → Prop}, Q z.c { s' with heap := h3 } → wpAny (model X.prog X.w) (X.A.mark (some (.ref a))) (eval (.Name z.x z.np) X.env) Q E { s' with heap := h3 } := fun {Q E} q => by
      obtain ⟨hg, nd, hm | ⟨hm, hv, hn⟩⟩ := Z.nm
      · exact ld_glob (X := X.suite a ((a, o3) :: (X.pn ++ pins))) K3 hg hm q nd
      · exact ld_blt (X := X.suite a ((a, o3) :: (X.pn ++ pins))) K3 hg hm hv q hn nd
    refine name (asked.here ?_)
    cases k with
    | false => exact rest (no rfl)
    | true =>
      refine codeAny_handlers_suite_as (HandSPX.lands_againZ fl fun h4 fl4 up4 => ?_)
      have J4 : Inv X pins σ H { s' with heap := h4 } := J.landed nb fl4.1 (up.trans up4) os ag
      obtain ⟨o4, v4, g4, z4, d4⟩ := fl4.there
      refine store_ok (X := X.suite a ((a, o4) :: (X.pn ++ pins))) (v := .ref a) (J4.suite g4 d4 na n1 n2) hN Z.ix (.inl Z.loc) rfl (fun s5 K5 => ?_) (.inr Z.loc)
      refine wpAny_mono ((Z.su a o4 cls d (X.pn ++ pins) z4 ⟨_, d4⟩).run [] s5 _ H (away D z.i) K5 (yes rfl a na)) (fun f s6 hsp => ?_) (fun _ _ q => q.elim)
      have last : ∀ {τ : L2.St} {G : Hp} {Q : Shared → Prop}, Inv (X.suite a ((a, o4) :: (X.pn ++ pins))) [] τ G s6 → (∀ s7, Inv X pins (τ.set z.i none) G s7 → Q s7) →
          wpAny (model X.prog X.w) X.A (do bindName X.env z.n .none; unbindBehindTheSuite X.env z.n z.pos) (fun _ s7 => Q s7) X.xe s6 := fun {τ G Q} K6 hq => gone_ok (K6.unsuite ok) hN Z.ix Z.loc hq
      cases f with
      | ret u =>
        obtain ⟨v6, τ, G, K6, r6, q6⟩ := hsp
        exact last K6 fun s7 J7 => ⟨_, _, _, J7, r6, q6⟩
      | next =>
        obtain ⟨τ, G, K6, q6⟩ := hsp
        exact last K6 fun s7 J7 => ⟨_, _, J7, q6⟩
      | brk =>
        obtain ⟨τ, G, K6, q6⟩ := hsp
        exact last K6 fun s7 J7 => ⟨_, _, J7, q6⟩
      | cont =>
        obtain ⟨τ, G, K6, q6⟩ := hsp
        exact last K6 fun s7 J7 => ⟨_, _, J7, q6⟩
theorem ps_try_zs {body : List Stmt} {z : Cz} {zs : List Cz} {pos : Pos} {tb : WX → TS} (hs : X.stack = X.env :: X.outer) (hf : X.env.frame = some X.env.locals) (hN : X.N.Nodup) (tk : Takes X Wo) (hz : ∀ y ∈ z :: zs, y.Ok X)
    (hb : ∀ (W : WX) (pn : List (Addr × Obj)) (xe : Value → Shared → Prop), Takes (X.tr pn xe) W → PassesOwn (model X.prog X.w) X.A X.env xe → PSs (X.tr pn xe) body (tb W)) :
    PS X (.Try body ((z :: zs).map Cz.h) [] [] pos) (fun D σ H => tb (wCz X.K Wo D (z :: zs)) D σ H) := by
  refine ⟨fun pins s σ H D I h => ?_⟩
  have ok := I.ok
  refine wpAny_Try_except ?_
  refine wpAny_mono ((hb (wCz X.K Wo D (z :: zs)) (X.pn ++ pins) (fun e s1 => wpAny (model X.prog X.w) X.A (noteFrame e X.env) (fun _ s2 => wpAny (model X.prog X.w) X.A (setFlight e none) (fun _ s3 =>
    wpAny (model X.prog X.w) X.A (handleBy e X.env ((z :: zs).map Cz.h)) (SP X pins D) X.xe s3) X.xe s2) X.xe s1) (fun u s' air => ?_) PassesOwn.looking).run [] s σ H D (I.toTry _) h) (fun f s1 hsp => ?_) (fun e s1 he => he)
  · obtain ⟨a, B, sI, _, τ, G, cls, d, rfl, J', nb, up, sky, na, os, ag, w⟩ := air
    have J : Inv X pins τ G sI := J'.ofTry ok
    have sk : Sky B (X.env :: X.outer) a (Zc cls d) X.env.locals s'.heap := by rw [← hs]; exact sky
    show wpAny (model X.prog X.w) X.A (noteFrame (.ref a) X.env) _ _ _
    exact Sky.land Zc.steady (by rw [ok.frames, hs]) hf sk fun h3 fl up3 => caught ok hs hf hN tk J nb (up.trans up3) os ag na fl (z :: zs) hz w
  · cases f with
    | ret u =>
      obtain ⟨v, τ, G, J', r, q⟩ := hsp
      exact ⟨v, τ, G, J'.ofTry ok, r, q⟩
    | next =>
      obtain ⟨τ, G, J', q⟩ := hsp
      exact wpAny_execs_nil ⟨τ, G, J'.ofTry ok, q⟩
    | brk =>
      obtain ⟨τ, G, J', q⟩ := hsp
      exact ⟨τ, G, J'.ofTry ok, q⟩
    | cont =>
      obtain ⟨τ, G, J', q⟩ := hsp
      exact ⟨τ, G, J'.ofTry ok, q⟩
end
end Bw

set_option Elab.async false
set_option linter.all false
set_option maxRecDepth 100000
set_option maxHeartbeats 4000000
/-! Bw: blocks, loops, all statements -/
namespace Bw
open PySem PySem.Spec PyProof.Rows L2
section
variable {g : Gd} {c : Cfg} {N : List Str} {cf : CF} {j : Nat} {X : Cx} {sc : Scope} {W : WX} {rho rho' : List Addr} {H H' : Hp} {s : Sto} {σ : L2.St} {Q : VK} {ev : C → En → Sto → R D} {ex : S → En → Sto → RS} {D0 : Ends} {w n : Nat}
theorem sw_no {e : Expr} (h : isComp e = false) (t : Option Expr) (l : Nat) (env : Env) : swapsWith e t l env = pure false := by
  cases e <;> first | rfl | (cases h; done)
theorem sw_name {e : Expr} {x : Str} {xp : Pos} {env : Env} : swappedStores [.Name x xp] e env = pure none := rfl
theorem sw_tup {ts : List Expr} {k : Nat} {tp : Pos} {e : Expr} {env : Env} (h : ∀ vs k2 p2, e ≠ .Tuple vs k2 p2) : swappedStores [.Tuple ts k tp] e env = pure none := by
  cases e <;> first | rfl | (exact absurd rfl (h _ _ _))
theorem sw_sub {a i : Expr} {p : Pos} {e : Expr} {env : Env} : swappedStores [.Subscript a i p] e env = pure none := rfl
theorem notC_tup {ts : List Expr} {k : Nat} {tp : Pos} (e : Expr) (l : Nat) (env : Env) : swapsWithSole [.Tuple ts k tp] e l env = pure false := by
  show swapsWith e (some (.Tuple ts k tp)) l env = pure false
  cases e <;> rfl
theorem notC_sub {a i : Expr} {p : Pos} (e : Expr) (l : Nat) (env : Env) : swapsWithSole [.Subscript a i p] e l env = pure false := by
  show swapsWith e (some (.Subscript a i p)) l env = pure false
  cases e <;> rfl
theorem pss_map {f : Stmt → S} (ih : ∀ st, PS X st (tS g W (ex (f st)))) : ∀ b : List Stmt, PSs X b (tS g W (exs ex (b.map f)))
  | [] => PSs.imp pss_nil fun D σ H ⟨rho, e, s, E, S, h⟩ => h rho H σ (Evo.refl _ _) S E
  | st :: b => by
    refine PSs.imp (pss_cons (ih st) (pss_map ih b)) fun D σ H ⟨rho, e, s, E, S, h⟩ => ⟨rho, e, s, E, S, ?_⟩
    have h : PoS g W D rho H (match ex (f st) e s with
      | .ok .next e1 s1 => exs ex (b.map f) e1 s1
      | r => r) := h
    cases hr : ex (f st) e s with
    | fail => rw [hr] at h; exact h
    | exc k e1 s1 => rw [hr] at h; exact h
    | ok fl e1 s1 =>
      rw [hr] at h
      cases fl with
      | next => exact fun r1 H1 σ1 E1 S1 R1 => ⟨r1, e1, s1, R1, S1, PoS.base h E1⟩
      | brk => exact h
      | cnt => exact h
      | ret v => exact h
theorem if_read {t : Expr} {a b : List Stmt} {p : Pos} {ct : C} {ca cb : List S} (h0 : PT X t (tT g W ev ct)) (h1 : PSs X a (tS g W (exs (exS ev w n) ca))) (h2 : PSs X b (tS g W (exs (exS ev w n) cb))) : PS X (.If t a b p) (tS g W (exS ev w (n + 1) (.ife ct ca cb))) := by
  refine PS.imp (ps_if h0 h1 h2) fun D σ H ⟨rho, e, s, E, S, h⟩ => ⟨rho, e, s, E, S, PoS.to E h fun k s1 r1 H1 x _ E1 S1 R1 h1 => ?_⟩
  subst R1
  cases x with
  | true => exact iteT ⟨r1, e, s1, E.mono E1, S1, h1⟩
  | false => exact iteF ⟨r1, e, s1, E.mono E1, S1, h1⟩
theorem loop_body {b : List S} {k : En → Sto → RS} {e : En} {s : Sto} {D : Ends} {Nx : L2.St → Hp → Prop} (h : PoS g W D rho H (match exs ex b e s with
      | .ok .next e2 s2 => k e2 s2
      | .ok .cnt e2 s2 => k e2 s2
      | .ok .brk e2 s2 => .ok .next e2 s2
      | r => r)) (hk : ∀ e2 s2 r2 H2 σ2, Evo rho H r2 H2 → StR g.fa r2 H2 s2 → EnR g.fa r2 H2 e2 σ2 → PoS g W D r2 H2 (k e2 s2) → Nx σ2 H2) :
    PoS g W { D with nx := Nx, ct := Nx, bk := D.nx } rho H (exs ex b e s) := by
  cases hr : exs ex b e s with
  | fail => rw [hr] at h; exact h
  | exc k e1 s1 => rw [hr] at h; exact h
  | ok fl e1 s1 =>
    rw [hr] at h
    cases fl with
    | next => exact fun r1 H1 σ1 E1 S1 R1 => hk e1 s1 r1 H1 σ1 E1 S1 R1 (PoS.base h E1)
    | cnt => exact fun r1 H1 σ1 E1 S1 R1 => hk e1 s1 r1 H1 σ1 E1 S1 R1 (PoS.base h E1)
    | brk => exact h
    | ret v => exact h
theorem whl_read (F : FitS g c N cf j X sc W) {t : Expr} {b : List Stmt} {p : Pos} {ct : C} {cb : List S} (h0 : PT X t (tT g W ev ct)) (h1 : PSs X b (tS g W (exs (exS ev w n) cb))) : PS X (.While t b [] p) (tS g W (exS ev w (n + 1) (.whl ct cb))) := by
  refine PS.imp (ps_while F.own h0 h1) fun D σ H ⟨rho, e, s, E, S, h⟩ => ?_
  refine ⟨fun m σ H => ∃ rho e s, EnR g.fa rho H e σ ∧ StR g.fa rho H s ∧ PoS g W D rho H (exWhl ev (exS ev w n) ct cb m e s), ⟨w, rho, e, s, E, S, h⟩, ?_⟩
  rintro m σ H ⟨rho, e, s, E, S, h⟩
  cases m with
  | zero => exact h.elim
  | succ m =>
    refine ⟨rho, e, s, E, S, PoS.to E h fun k s1 r1 H1 x _ E1 S1 R1 h1 => ?_⟩
    subst R1
    cases x with
    | false => exact iteF (h1 r1 H1 σ (Evo.refl _ _) S1 (E.mono E1))
    | true =>
      refine iteT ⟨fun σ' H' => ∃ rho e s, EnR g.fa rho H' e σ' ∧ StR g.fa rho H' s ∧ PoS g W D rho H' (exWhl ev (exS ev w n) ct cb m e s), fun σ' H' z => ⟨m, Nat.lt_succ_self m, z⟩, r1, e, s1, E.mono E1, S1, ?_⟩
      exact loop_body h1 fun e2 s2 r2 H2 σ2 E2 S2 R2 h2 => ⟨r2, e2, s2, R2, S2, h2⟩
theorem for_read (F : FitS g c N cf j X sc W) {tg it : Expr} {b : List Stmt} {p : Pos} {t : T} {ci : It} {cb : List S} (hp : plainE it = true) (h0 : PI X tg it (tI g W ev ci)) (hg : PG X tg (tG g ev TT t)) (h1 : PSs X b (tS g W (exs (exS ev w n) cb))) : PS X (.For tg it b [] p) (tS g W (exS ev w (n + 1) (.for_ t ci cb))) := by
  refine PS.imp (ps_for F.own F.calm h0 hg h1 (fun x => fold_plain hp X.env x)) fun D σ H ⟨rho, e, s, E, S, h⟩ => ?_
  refine ⟨rho, e, s, E, S, PoS.to E h fun pp s1 rho1 H1 J _ E1 S1 R1 h1 => ?_⟩
  obtain ⟨G, Y, walk, keep, item⟩ := R1
  refine for_it walk (fun i σ H => i ≤ pp.2.length ∧ ∃ rho e s, Evo rho1 H1 rho H ∧ EnR g.fa rho H e σ ∧ StR g.fa rho H s ∧ PoS g W D rho H (exFor ev (exS ev w n) t cb pp.1 pp.2.length i (pp.2.drop i) e s)) ⟨Nat.zero_le _, rho1, e, s1, Evo.refl _ _, E.mono E1, S1, h1⟩ ?_ ?_ ?_
  · rintro i σ H2 hi ⟨_, rho2, e2, s2, E3, _, S3, h3⟩
    refine keep i rho2 H2 s2 E3 S3 ?_
    by_cases hl : i < pp.2.length
    · rw [List.drop_eq_getElem_cons hl] at h3
      rw [List.getElem?_eq_getElem hl]
      simp only [exFor] at h3
      split at h3
      · assumption
      · exact h3.elim
    · rw [List.drop_eq_nil_of_le (by omega)] at h3
      rw [List.getElem?_eq_none (by omega)]
      simp only [exFor] at h3
      split at h3
      · assumption
      · exact h3.elim
  · rintro i x σ H2 H3 hi ⟨_, rho2, e2, s2, E3, R3, S3, h3⟩ y
    rw [List.drop_eq_getElem_cons hi] at h3
    simp only [exFor] at h3
    split at h3
    case isFalse => exact h3.elim
    rename_i hc
    obtain ⟨E4, S4, R4⟩ := item i _ rho2 H2 s2 x H3 (List.getElem?_eq_getElem hi) E3 S3 hc y
    refine ⟨rho2, _, e2, s2, R3.mono E4, S4, R4, ?_⟩
    have h3 := PoS.base h3 E4
    generalize asg ev t pp.2[i] e2 s2 = ra at h3 ⊢
    cases ra with
    | fail => exact h3.elim
    | exc k s =>
      have h3 : False := h3
      exact h3.elim
    | ok e3 s3 =>
      intro r5 H5 σ5 E5 S5 R5
      refine ⟨r5, e3, s3, R5.1, S5, ?_⟩
      exact loop_body (PoS.base h3 E5) fun e6 s6 r6 H6 σ6 E6 S6 R6 h6 => ⟨hi, r6, e6, s6, ((E3.trans E4).trans E5).trans E6, R6, S6, h6⟩
  · rintro σ H2 ⟨_, rho2, e2, s2, E3, R3, S3, h3⟩
    rw [List.drop_eq_nil_of_le (Nat.le_refl _)] at h3
    simp only [exFor] at h3
    split at h3
    · exact h3 rho2 H2 σ (Evo.refl _ _) S3 R3
    · exact h3.elim
theorem ret_read {e : Expr} {p : Pos} {cc : C} (h : PE X e (tE g W ev cc)) : PS X (.Return (some e) p) (tS g W (exS ev w (n + 1) (.ret cc))) := by
  refine PS.imp (ps_ret h) fun D σ H ⟨rho, e, s, E, S, h⟩ => ⟨rho, e, s, E, S, PoS.to E h fun k s1 r1 H1 x _ E1 S1 R1 h1 => ?_⟩
  exact h1 r1 H1 x (Evo.refl _ _) S1 R1
theorem ex_read {e : Expr} {p : Pos} {cc : C} (hs : swapsWith e none p.line X.env = pure false) (h : PE X e (tE g W ev cc)) : PS X (.Expr e p) (tS g W (exS ev w (n + 1) (.ex cc))) := by
  refine PS.imp (ps_expr h hs) fun D σ H ⟨rho, e, s, E, S, h⟩ => ⟨rho, e, s, E, S, PoS.to E h fun k s1 r1 H1 x _ E1 S1 R1 h1 => ?_⟩
  exact h1 r1 H1 σ (Evo.refl _ _) S1 (E.mono E1)
theorem pmk_own0 {C : Addr} {bmB : List Value} {B newId initId : String} {x : Str} {p pos : Pos} (F : ExcBaseFacts B newId initId bmB) (q : PySem.W.excIn X.K C bmB newId = true) (gC : X.mg x = some (.ref C))
    (kC : PySem.W.keepIn X.K (.ref C) = true) (r : Raises X (.ref C)) (hg : Gl X x) (hdb : (x == ("__debug__" : Str)) = false) : PMk X (.Call (.Name x p) [] [] pos) (fun _ H Q => Q (.ref C) none H) := by
  intro pins s σ H Q I h
  refine wpAny_Call_Name_kw (ld_glob I hg gC ?_ hdb)
  refine PySem.W.callWith_K0 I.kIn kC ?_
  obtain ⟨bm, N, nm, qn, bs, hdct, sn, sub, ab, col, dd, k0, k1, k2, k3, k5, mN, hC, hN, hni, T⟩ := exc_obj I.kIn q
  refine wpAny_call_exc_subT F T hC hN hni (fun h' e hm => ?_) (Nat.zero_le _)
  exact mk_of I hm r h (I.hok.gone hm.new)
theorem rais_read (F : FitS g c N cf j X sc W) {x : Str} {p1 p2 p : Pos} (hx : x ∈ c.exc) (ok : okN x = true) (hl : sc.names.lookup x = some .globalImplicit) : PS X (.Raise (some (.Call (.Name x p1) [] [] p2)) none p) (tS g W (exS ev w (n + 1) (.rais x))) := by
  obtain ⟨C, h1, h2, h3, h4, h5⟩ := F.exc x hx
  refine PS.imp (L2.ps_raise F.calm F.tk (pmk_own0 PySem.F.excBase_ValueError h3 h1 h4 h5 (F.gl hl) (okN_dbg ok).1)) fun D σ H ⟨rho, e, s, E, S, h⟩ => ?_
  obtain ⟨cc, e1, h⟩ := h
  rw [h2] at e1
  cases e1
  exact h rho H σ (Evo.refl _ _) S E
theorem cleans_snoc : ∀ {xs : List D} {v : D}, cleans xs = true → clean v = true → cleans (xs ++ [v]) = true
  | [], v, _, hv => by show (clean v && true) = true; rw [hv]; rfl
  | x :: xs, v, h, hv => by
    have q := Bool.and_eq_true_iff.mp (show (clean x && cleans xs) = true from h)
    show (clean x && cleans (xs ++ [v])) = true
    rw [q.1, cleans_snoc q.2 hv]; rfl
theorem app_read {o e : Expr} {p ap cp : Pos} {co ce : C} (ho : PE X o (tE g W ev co)) (he : PE X e (tE g W ev ce)) (hp : plainE e = true) (hl : ap.endLine = cp.line) (hb : attributeBase o "append" X.env (eval o X.env) = eval o X.env) :
    PS X (.Expr (.Call (.Attribute o "append" ap) [e] [] cp) p) (tS g W (exS ev w (n + 1) (.app co ce))) := by
  have hs1 : starEach [e] X.env = (false, eval e X.env) :: starEach [] X.env := star_cons hp [] X.env
  refine PS.imp (ps_expr (pe_bm PySem.F.plainAttrs_list PySem.F.slot_list_append PySem.F.type_list_append (show MtR X "list.append" rAppend from mt_append) ho (pa_cons he pa_nil hs1) hb (by rw [hs1]; rfl) (by rw [hl]; simp) hs1 rfl) rfl) fun D σ H ⟨rho, e, s, E, S, h⟩ => ?_
  refine ⟨rho, e, s, E, S, PoS.to E h fun v1 s1 r1 H1 x _ E1 S1 R1 h1 => ?_⟩
  cases R1 with
  | @ref i a hi =>
    simp only at h1
    split at h1
    · rename_i lk xs0 e0
      obtain ⟨ys, g1, _⟩ := S1.some hi e0
      refine ⟨.inl ⟨rfl, ys, SqL.of g1⟩, r1, e, s1, E.mono E1, S1, PoS.to (E.mono E1) h1 fun v2 s2 r2 H2 y _ E2 S2 R2 h2 => ?_⟩
      split at h2
      · rename_i xs ex
        split at h2
        · rename_i hc
          rw [Bool.and_eq_true] at hc
          obtain ⟨vs, g2, g3, g4⟩ := S2.at_ _ _ _ _ (E2.at hi) ex
          obtain ⟨S3, E3⟩ := S2.wrote (lk' := false) (E2.at hi) ex (g3.append (.cons R2 .nil)) (cleans_snoc g4 hc.1)
          exact ⟨a, vs, y, rfl, rfl, g2, by rw [g3.length, ← lim_eq]; exact of_decide_eq_true hc.2, h2 r2 _ σ E3 S3 (((E.mono E1).mono E2).mono E3)⟩
        · exact h2.elim
      · exact h2.elim
    · exact h1.elim
  | _ => exact h1.elim
theorem PSs.none {e : List Stmt} {t : TS} (k : ∀ D σ H, ¬ t D σ H) : PSs X e t := ⟨fun _ _ σ H D _ q => (k D σ H q).elim⟩
theorem FitS.tr (F : FitS g c N cf j X sc W) {pn : List (Addr × Obj)} {xe : Value → Shared → Prop} {W' : WX} (tk : Takes (X.tr pn xe) W') (own : PassesOwn (model X.prog X.w) X.A X.env xe) : FitS g c N cf j (X.tr pn xe) sc W' where
  hN := F.hN
  nd := F.nd
  sc := F.sc
  calm := F.calm
  tk := tk
  room := F.room
  j0 := F.j0
  own := own
  fns := F.fns
  len := F.len
  calls := F.calls
  fnP := F.fnP
  blt := F.blt
  con := F.con
  fn := F.fn
  kind := F.kind
  exc := F.exc
  stk := F.stk
  frm := F.frm
  exm := F.exm
  exo := F.exo
/-- small values as the machine has them -/
def smV (pv : Option V) : Option Bw.D → Option V
  | some (.str z) => some (.str z)
  | some (.bl b) => some (.bl b)
  | some _ => none
  | none => pv
def smVs (pv : Option V) : List (Option Bw.D) → Option (List V)
  | [] => some []
  | d :: r => match smV pv d, smVs pv r with
    | some v, some l => some (v :: l)
    | _, _ => none
theorem smVs_len {pv : Option V} : ∀ {ds : List (Option Bw.D)} {vs : List V}, smVs pv ds = some vs → vs.length = ds.length
  | [], vs, h => by cases h; rfl
  | d :: r, vs, h => by
    unfold smVs at h
    split at h
    · rename_i v l e1 e2
      cases h
      exact congrArg Nat.succ (smVs_len e2)
    · cases h
/-- the error's own attribute (none: it has none) -/
def AttR (g : Gd) (rho : List Addr) (H : Hp) (pv : Option V) (pd : Option Bw.D) : Prop := ∀ d, pd = some d → ∃ v, pv = some v ∧ RV g.fa rho H v d
theorem sm_rv {pv : Option V} {pd : Option Bw.D} (A : AttR g rho H pv pd) : ∀ {o : Option Bw.D} {d : Bw.D}, (∀ d0, o = some d0 → (∃ z, d0 = .str z) ∨ ∃ b, d0 = .bl b) → (match o with
    | some d => some d
    | none => pd) = some d → ∃ v, smV pv o = some v ∧ RV g.fa rho H v d
  | none, d, _, h => A d h
  | some d0, d, hs, h => by
    cases h
    rcases hs _ rfl with ⟨z, rfl⟩ | ⟨b, rfl⟩
    · exact ⟨_, rfl, .str z⟩
    · exact ⟨_, rfl, .bl b⟩
def Sm (o : Option Bw.D) : Prop := ∀ d0, o = some d0 → (∃ z, d0 = .str z) ∨ ∃ b, d0 = .bl b
def SmE : HE → Prop
  | .one o => Sm o
  | .lst os => ∀ o ∈ os, Sm o
theorem cHV_sm {x y : Str} {e : Expr} {o : Option Bw.D} (h : cHV c sc x y e = some o) : Sm o := by
  unfold cHV at h
  repeat' split at h
  all_goals first | (cases h; done) | skip
  · cases h
    exact fun d0 e => by cases e; exact .inl ⟨_, rfl⟩
  · cases h
    exact fun d0 e => by cases e; exact .inr ⟨_, rfl⟩
  · cases h
    exact fun d0 e => by cases e; exact .inr ⟨_, rfl⟩
theorem cHVs_sm {x y : Str} : ∀ {es : List Expr} {os : List (Option Bw.D)}, cHVs c sc x y es = some os → ∀ o ∈ os, Sm o
  | [], os, h => by cases h; exact fun o ho => by cases ho
  | e :: es, os, h => by
    unfold cHVs at h
    split at h
    · rename_i o1 l e1 e2
      cases h
      intro o ho
      rcases List.mem_cons.mp ho with rfl | ho
      · exact cHV_sm e1
      · exact cHVs_sm e2 o ho
    · cases h
theorem sms_rv {pv : Option V} {pd : Option Bw.D} (A : AttR g rho H pv pd) : ∀ {os : List (Option Bw.D)} {ds : List Bw.D}, (∀ o ∈ os, Sm o) → HE.val.hs pd os = some ds → ∃ vs, smVs pv os = some vs ∧ RVs g.fa rho H vs ds
  | [], ds, _, h => by cases h; exact ⟨[], rfl, .nil⟩
  | some d0 :: r, ds, hs, h => by
    have h : (match HE.val.hs pd r with
      | some l => some (d0 :: l)
      | none => none) = some ds := h
    split at h
    · rename_i l hl
      cases h
      obtain ⟨vs, h1, h2⟩ := sms_rv A (fun o ho => hs o (List.mem_cons_of_mem _ ho)) hl
      obtain ⟨v, h3, h4⟩ := sm_rv (o := some d0) A (hs _ List.mem_cons_self) rfl
      refine ⟨v :: vs, ?_, .cons h4 h2⟩
      unfold smVs
      rw [h3, h1]
    · cases h
  | none :: r, ds, hs, h => by
    have h : (match (generalizing := false) pd, HE.val.hs pd r with
      | some d, some l => some (d :: l)
      | _, _ => none) = some ds := h
    cases hd : pd with
    | none => rw [hd] at h; cases h
    | some d =>
    cases hl : HE.val.hs pd r with
    | none => rw [hl, hd] at h; cases h
    | some l =>
    rw [hl, hd] at h
    · cases h
      obtain ⟨vs, h1, h2⟩ := sms_rv A (fun o ho => hs o (List.mem_cons_of_mem _ ho)) hl
      obtain ⟨v, h3, h4⟩ := A _ hd
      refine ⟨v :: vs, ?_, .cons h4 h2⟩
      unfold smVs
      rw [show smV pv none = pv from rfl, h1]
      subst h3
      rfl
/-- what a suite's expression comes to -/
def rHE (pv : Option V) (H : Hp) (Q : VK) : HE → Prop
  | .one o => ∃ v, smV pv o = some v ∧ Q v H
  | .lst os => ∃ vs, smVs pv os = some vs ∧ ∀ p, H p = none → Q (.ref p) (upd H p (.lst vs))
section
variable {a C : Addr} {oe : Obj} {cls : Value} {d : Option Addr} {pn : List (Addr × Obj)} {i : Nat} {x y : Str}
theorem hv_read (F : FitS g c N cf j X sc W) (hx : x ∈ c.exc) (m1 : X.mg x = some (.ref C)) (ok : okN y = true) (ly : sc.names.lookup y = some .local) (hi : ixOf N y = some i) (hz : Zc (.ref C) d oe) (hf : ∃ vs, oe.data = .fields vs) (hd : d = none) {e : Expr} {o : Option Bw.D} (h : cHV c sc x y e = some o) :
    PE (X.suite a ((a, oe) :: pn)) e (fun σ H Q => σ[i]? = some (some (.ref a)) ∧ ∃ v, smV none o = some v ∧ Q v H) := by
  unfold cHV at h
  split at h
  · cases h
    refine PE.imp pe_str fun σ H Q ⟨_, v, e1, q⟩ => ?_
    cases e1
    exact q
  · rename_i f p2 y' p3 t p4 p5
    split at h
    · rename_i hh
      obtain ⟨rfl, l1, b1, l2, b2, rfl⟩ := hh
      have hi2 : X.N[i]? = some y' := by rw [F.hN]; exact ixOf_ok hi
      have hly : X.env.scope.names.lookup y' = some .local := by rw [F.sc]; exact ly
      have gl : ∀ {u : Str}, sc.names.lookup u = some .globalImplicit → Gl X u := fun h => F.toFit.gl h
      obtain ⟨EC, ka, kb⟩ := F.exo _ hx C m1
      subst hd
      have go : ∀ {t : Str} {n : String} {k : Bool}, sc.names.lookup t = some .globalImplicit → t ∈ c.blt → mathN t = none → t ≠ "__name__" → (t == ("__debug__" : Str)) = false → bootBuiltins t = some (.type n) → PySem.W.kitOne X.K (.ref C) (.type n) = some k →
          PE (X.suite a ((a, oe) :: pn)) (.Call (.Name "isinstance" p2) [.Name y' p3, .Name t p4] [] p5) (fun σ H Q => σ[i]? = some (some (.ref a)) ∧ ∃ v, smV none (some (.bl k)) = some v ∧ Q v H) := by
        intro t n k l2 b2 tg tn td bb kt
        have ha : PA (X.suite a ((a, oe) :: pn)) [.Name y' p3, .Name t p4] (tCons (tVar i) fun _ H Q => Q [V.ty n] H) :=
          pa_cons (pe_var (X := X.suite a ((a, oe) :: pn)) hi2 (.inl hly) (okN_dbg ok).1 (okN_dbg ok).2.1) (pa_cons (pe_bltn (X := X.suite a ((a, oe) :: pn)) (gl l2) (F.toFit.free b2 tg) (u := .type n) (v := .ty n) bb rfl tn td) pa_nil)
        refine PE.imp (pe_callB (call_isE EC hz hf) (gl l1) (F.toFit.free b1 (by decide)) (by decide +kernel) ha (by decide) (by decide) rfl rfl) fun σ H Q ⟨h1, v, e1, q⟩ => ?_
        cases e1
        exact ⟨.ref a, h1, .ty n, .type n, k, rfl, fun u h => h, kt, q⟩
      split at h
      · rename_i ht
        subst ht
        cases h
        exact go l2 b2 (by decide) (by decide) (by decide) (by decide +kernel) ka
      · split at h
        · rename_i ht
          subst ht
          cases h
          exact go l2 b2 (by decide) (by decide) (by decide) (by decide +kernel) kb
        · cases h
    · cases h
  · cases h
theorem hvs_read (F : FitS g c N cf j X sc W) (hx : x ∈ c.exc) (m1 : X.mg x = some (.ref C)) (ok : okN y = true) (ly : sc.names.lookup y = some .local) (hi : ixOf N y = some i) (hz : Zc (.ref C) d oe) (hf : ∃ vs, oe.data = .fields vs) (hd : d = none) : ∀ {es : List Expr} {os : List (Option Bw.D)}, cHVs c sc x y es = some os →
    PA (X.suite a ((a, oe) :: pn)) es (fun σ H Q => σ[i]? = some (some (.ref a)) ∧ ∃ vs, smVs none os = some vs ∧ Q vs H)
  | [], os, h => by
    cases h
    refine PA.imp pa_nil fun σ H Q ⟨_, vs, e, q⟩ => ?_
    cases e
    exact q
  | e :: es, os, h => by
    unfold cHVs at h
    split at h
    · rename_i o l e1 e2
      cases h
      have st : starEach (e :: es) (X.suite a ((a, oe) :: pn)).env = (false, eval e (X.suite a ((a, oe) :: pn)).env) :: starEach es (X.suite a ((a, oe) :: pn)).env := by
        refine star_cons ?_ es _
        unfold cHV at e1
        split at e1 <;> first | rfl | (cases e1; done)
      refine PA.imp (pa_cons (hv_read F hx m1 ok ly hi hz hf hd e1) (hvs_read F hx m1 ok ly hi hz hf hd e2) st) fun σ H Q ⟨h1, vs, ev, q⟩ => ?_
      unfold smVs at ev
      split at ev
      · rename_i v l' q1 q2
        cases ev
        exact ⟨h1, v, q1, h1, l', q2, q⟩
      · cases ev
    · cases h
theorem he_read (F : FitS g c N cf j X sc W) (hx : x ∈ c.exc) (m1 : X.mg x = some (.ref C)) (ok : okN y = true) (ly : sc.names.lookup y = some .local) (hi : ixOf N y = some i) (hz : Zc (.ref C) d oe) (hf : ∃ vs, oe.data = .fields vs) (hd : d = none) {e : Expr} {he : HE} (h : cHE c sc x y e = some he) :
    PE (X.suite a ((a, oe) :: pn)) e (fun σ H Q => σ[i]? = some (some (.ref a)) ∧ rHE none H Q he) := by
  have one : ∀ {o : Option Bw.D}, cHV c sc x y e = some o → PE (X.suite a ((a, oe) :: pn)) e (fun σ H Q => σ[i]? = some (some (.ref a)) ∧ rHE none H Q (.one o)) := fun ho => PE.imp (hv_read F hx m1 ok ly hi hz hf hd ho) fun σ H Q q => q
  unfold cHE at h
  split at h
  · split at h
    · rename_i es p l hl
      split at h
      · rename_i h8
        cases h
        refine PE.imp (pe_lst (hvs_read F hx m1 ok ly hi hz hf hd hl)) fun σ H Q ⟨h1, vs, e1, q⟩ => ⟨h1, vs, e1, ?_, q⟩
        rw [smVs_len e1, ← lim_eq]
        exact Nat.le_trans h8 (by decide)
      · cases h
    · cases h
  · split at h
    · rename_i o ho
      cases h
      exact one ho
    · cases h
/-- a suite's end -/
def rEnd (D : Ends) (i : Nat) (o : Option Nat) (σ : L2.St) : VK := match o with
  | none => D.rt
  | some j => fun v H => D.nx ((σ.set j (some v)).set i none) H
theorem h_read (F : FitS g c N cf j X sc W) {h : ExceptHandler} {i : Nat} {o : Option Nat} {he : HE} (hc : cH c N sc h = some (x, i, o, he)) : x ∈ c.exc ∧ ∃ z : Cz, z.h = h ∧ z.Ok X ∧ g.cl x = some z.c ∧ z.i = i ∧
    ∀ a (D : Ends) σ H, σ[i]? = some (some (.ref a)) → rHE none H (rEnd D i o σ) he → z.ts a z.c none (away D i) σ H := by
  unfold cH at hc
  split at hc
  · rename_i x' np y e p1 p2
    split at hc
    rotate_left
    · cases hc
    rename_i hh
    obtain ⟨hx, ok, hl, oky, ly⟩ := hh
    split at hc
    rotate_left
    · cases hc
    rename_i i' he' hi hE
    cases hc
    obtain ⟨C, m1, c1, x1, x2, x3⟩ := F.exc _ hx
    refine ⟨hx, ⟨_, np, y, _, .ref C, fun a cls d D σ H => cls = .ref C ∧ d = none ∧ σ[i]? = some (some (.ref a)) ∧ rHE none H D.rt he, .Return (some e) p1, [], p2⟩, rfl,
      ⟨by rw [F.hN]; exact ixOf_ok hi, by unfold Env.kindOf; rw [F.sc]; exact ly, ⟨F.toFit.gl hl, (okN_dbg ok).1, .inl m1⟩, fun a oe cls d pn hz hf => ?_⟩, c1, rfl, fun a D σ H q1 q2 => ⟨rfl, rfl, q1, q2⟩⟩
    by_cases hc : cls = .ref C ∧ d = none
    · obtain ⟨rfl, rfl⟩ := hc
      exact PSs.imp (pss_one (ps_ret (he_read F hx m1 oky ly hi hz hf rfl hE))) fun D σ H q => q.2.2
    · exact PSs.none fun D σ H q => hc ⟨q.1, q.2.1⟩
  · rename_i x' np y z zp e p1 p2
    split at hc
    rotate_left
    · cases hc
    rename_i hh
    obtain ⟨hx, ok, hl, oky, ly, lz, nc⟩ := hh
    split at hc
    rotate_left
    · cases hc
    rename_i i' j' he' hi hj hE
    cases hc
    obtain ⟨C, m1, c1, x1, x2, x3⟩ := F.exc _ hx
    refine ⟨hx, ⟨_, np, y, _, .ref C, fun a cls d D σ H => cls = .ref C ∧ d = none ∧ σ[i]? = some (some (.ref a)) ∧ rHE none H (fun v H => D.nx (σ.set j' (some v)) H) he, .Assign [.Name z zp] e p1, [], p2⟩, rfl,
      ⟨by rw [F.hN]; exact ixOf_ok hi, by unfold Env.kindOf; rw [F.sc]; exact ly, ⟨F.toFit.gl hl, (okN_dbg ok).1, .inl m1⟩, fun a oe cls d pn hz hf => ?_⟩, c1, rfl, fun a D σ H q1 q2 => ⟨rfl, rfl, q1, q2⟩⟩
    by_cases hc : cls = .ref C ∧ d = none
    · obtain ⟨rfl, rfl⟩ := hc
      have hg : PG (X.suite a ((a, oe) :: pn)) (.Name z zp) (gName j') := pg_name (X := X.suite a ((a, oe) :: pn)) (i := j') (by show X.N.Nodup; rw [F.hN]; exact F.nd) (by show X.N[j']? = _; rw [F.hN]; exact ixOf_ok hj) (by show Loc X.env.scope z; rw [F.sc]; exact lz) (.inl (F.fn z))
      exact PSs.imp (pss_one (ps_asg (he_read F hx m1 oky ly hi hz hf rfl hE) hg (show swapsWithSole [.Name z zp] e p1.line X.env = pure false from by unfold swapsWithSole; exact sw_no nc _ _ _) sw_name rfl)) fun D σ H q => q.2.2
    · exact PSs.none fun D σ H q => hc ⟨q.1, q.2.1⟩
  · cases hc
theorem hs_read (F : FitS g c N cf j X sc W) : ∀ (hs : List ExceptHandler) (cs : List (Str × Nat × Option Nat × HE)), cHs c N sc hs = some cs → ∃ zs : List Cz, zs.map Cz.h = hs ∧ (∀ z ∈ zs, z.Ok X) ∧
    ∀ (D : Ends) (σ : L2.St) (H : Hp) (y : Str) (c0 : Value), g.cl y = some c0 → y ∈ c.exc → (∀ i o he, cs.lookup y = some (i, o, he) → i < σ.length ∧ ∀ a, H a = none → rHE none H (rEnd D i o (σ.set i (some (.ref a)))) he) →
      (cs.lookup y = none → W c0 none σ H) → wCz X.K W D zs c0 none σ H
  | [], cs, h => by
    cases h
    exact ⟨[], rfl, fun z hz => (by cases hz), fun D σ H y c0 h1 h2 h3 h4 => h4 rfl⟩
  | e :: hs, cs, h => by
    unfold cHs at h
    split at h
    · rename_i b l e1 e2
      cases h
      obtain ⟨x, i, o, he⟩ := b
      obtain ⟨zs, q1, q2, q3⟩ := hs_read F hs l e2
      obtain ⟨hx, z, r1, r2, r3, r4, r6⟩ := h_read F e1
      refine ⟨z :: zs, by rw [List.map_cons, q1, r1], fun y hy => ?_, fun D σ H y c0 h1 h2 h3 h4 => ?_⟩
      · rcases List.mem_cons.mp hy with rfl | hy
        · exact r2
        · exact q2 y hy
      · have lk : ∀ y, ((x, i, o, he) :: l).lookup y = match y == x with
          | true => some (i, o, he)
          | false => l.lookup y := fun y => rfl
        refine ⟨decide (y = x), F.exm y h2 x hx _ _ h1 r3, fun hk => ?_, fun hk => ?_⟩
        · have hk : y = x := of_decide_eq_true hk
          subst hk
          rw [h1] at r3
          cases r3
          intro a na
          obtain ⟨w1, w2⟩ := h3 i o he (by rw [lk, beq_self_eq_true])
          rw [r4]
          exact r6 a D _ H (List.getElem?_set_self w1) (w2 a na)
        · have hk : (y == x) = false := by
            rw [beq_eq_false_iff_ne]
            exact of_decide_eq_false hk
          exact q3 D σ H y c0 h1 h2 (fun i o he hv => h3 i o he (by rw [lk, hk]; exact hv)) fun hn => h4 (by rw [lk, hk]; exact hn)
    · cases h
end
theorem cH_sm {h : ExceptHandler} {x : Str} {i : Nat} {o : Option Nat} {he : HE} (hc : cH c N sc h = some (x, i, o, he)) : SmE he := by
  have go : ∀ {x y : Str} {e : Expr} {he : HE}, cHE c sc x y e = some he → SmE he := by
    intro x y e he h
    unfold cHE at h
    split at h
    · split at h
      · rename_i hl
        split at h
        · cases h
          exact cHVs_sm hl
        · cases h
      · cases h
    · split at h
      · rename_i ho
        cases h
        exact cHV_sm ho
      · cases h
  unfold cH at hc
  split at hc
  · split at hc
    · split at hc
      · rename_i hE
        cases hc
        exact go hE
      · cases hc
    · cases hc
  · split at hc
    · split at hc
      · rename_i hE
        cases hc
        exact go hE
      · cases hc
    · cases hc
  · cases hc
theorem cHs_sm : ∀ {hs : List ExceptHandler} {cs : List (Str × Nat × Option Nat × HE)}, cHs c N sc hs = some cs → ∀ {y : Str} {i : Nat} {o : Option Nat} {he : HE}, cs.lookup y = some (i, o, he) → SmE he
  | [], cs, h, y, i, o, he, hl => by
    cases h
    cases hl
  | e :: hs, cs, h, y, i, o, he, hl => by
    unfold cHs at h
    split at h
    · rename_i b l e1 e2
      cases h
      obtain ⟨x, i1, o1, he1⟩ := b
      have hl : (match y == x with
          | true => some (i1, o1, he1)
          | false => l.lookup y) = some (i, o, he) := hl
      split at hl
      · cases hl
        exact cH_sm e1
      · exact cHs_sm e2 hl
    · cases h
/-- try with clauses -/
theorem try_read (F : FitS g c N cf j X sc W) {h : ExceptHandler} {hs : List ExceptHandler} {body : List Stmt} {b : List S} {cs : List (Str × Nat × Option Nat × HE)} {pos : Pos} (hc : cHs c N sc (h :: hs) = some cs)
    (hb : ∀ X' W', FitS g c N cf j X' sc W' → PSs X' body (tS g W' (exs (exS ev w n) b))) :
    PS X (.Try body (h :: hs) [] [] pos) (tS g W (exS ev w (n + 1) (.tryR b cs c.exc))) := by
  obtain ⟨zs, q1, q2, q3⟩ := hs_read F (h :: hs) cs hc
  have sm := fun {y i o he} => cHs_sm hc (y := y) (i := i) (o := o) (he := he)
  cases zs with
  | nil => cases q1
  | cons z zs =>
  rw [← q1]
  refine PS.imp (ps_try_zs (Wo := W) (tb := fun W' => tS g W' (exs (exS ev w n) b)) F.stk F.frm (by rw [F.hN]; exact F.nd) F.tk q2 (fun W' pn xe tk own => hb _ _ (F.tr tk own))) fun D σ H q => ?_
  obtain ⟨rho, e, s, E, S, q0⟩ := q
  refine ⟨rho, e, s, E, S, ?_⟩
  have q : PoS g W D rho H (match exs (exS ev w n) b e s with
    | .exc y e1 s1 => if y ∈ c.exc then (match cs.lookup y with
      | some (i, o, h) => h.run i o none e1 s1
      | none => .exc y e1 s1) else .fail
    | r => r) := q0
  clear q0
  generalize exs (exS ev w n) b e s = r at q ⊢
  cases r with
  | fail => exact q
  | ok f e1 s1 => cases f <;> exact q
  | exc k e1 s1 =>
    simp only at q
    split at q
    case isFalse => exact q.elim
    rename_i kin
    obtain ⟨C, m1, c1, _⟩ := F.exc k kin
    cases hk : cs.lookup k with
    | some p =>
      obtain ⟨i, o, he⟩ := p
      rw [hk] at q
      simp only at q
      unfold HE.run at q
      split at q
      rotate_left
      · exact q.elim
      rename_i v hv
      split at q
      case isFalse => exact q.elim
      rename_i hlt
      have hsm := sm hk
      refine ⟨.ref C, c1, fun rho' H' σ' Ev S' R' => q3 D σ' H' k (.ref C) c1 kin (fun i' o' he' hv' => ?_) fun hn => by rw [hk] at hn; cases hn⟩
      rw [hk] at hv'
      cases hv'
      refine ⟨by rw [R'.len]; exact hlt, fun a na => ?_⟩
      have A : ∀ H, AttR g rho' H none none := fun H d hd => by cases hd
      -- the suite's end, from what it makes
      have fin : ∀ (H2 : Hp) (x : V), Evo rho' H' rho' H2 → StR g.fa rho' H2 s1 → RV g.fa rho' H2 x v → rEnd D i o (σ'.set i (some (.ref a))) x H2 := by
        intro H2 x E2 S2 R2
        cases o with
        | none => exact q rho' H2 x (Ev.trans E2) S2 R2
        | some jj =>
          simp only at q
          split at q
          case isFalse => exact q.elim
          rename_i hj
          refine q rho' H2 _ (Ev.trans E2) S2 ?_
          have R3 := (R'.mono E2).set jj R2
          refine ⟨by rw [List.length_set, List.length_set, List.length_set, List.length_set, List.length_set]; exact R'.len, fun m d hm => ?_⟩
          by_cases him : i = m
          · subst him
            rw [List.getElem?_set_self (by rw [List.length_set]; exact hlt)] at hm
            cases hm
          · rw [List.getElem?_set_ne him] at hm
            obtain ⟨y, y1, y2⟩ := R3.at_ m d hm
            refine ⟨y, ?_, y2⟩
            rw [List.getElem?_set_ne him]
            by_cases hjm : jj = m
            · subst hjm
              have ll : jj < σ'.length := by rw [R'.len]; exact hj.1
              rw [List.getElem?_set_self ll] at y1
              rw [List.getElem?_set_self (by rw [List.length_set]; exact ll)]
              exact y1
            · rw [List.getElem?_set_ne hjm] at y1
              rw [List.getElem?_set_ne hjm, List.getElem?_set_ne him]
              exact y1
      cases he with
      | one oo =>
        have hv2 : (match (generalizing := false) oo with
          | some d => some d
          | none => none) = some v := by
          cases oo with
          | none => cases hv
          | some d0 => cases hv; rfl
        obtain ⟨x, x1, x2⟩ := sm_rv (A H') hsm hv2
        exact ⟨x, x1, fin H' x (Evo.refl _ _) S' x2⟩
      | lst os =>
        have hv : (match HE.val.hs none os with
          | some l => some (Bw.D.lst l)
          | none => none) = some v := hv
        split at hv
        · rename_i l hl
          cases hv
          obtain ⟨vs, v1, v2⟩ := sms_rv (A H') hsm hl
          refine ⟨vs, v1, fun p np => fin _ _ (Evo.laid np) (S'.laid np) (.lst upd_same (S'.out np) (v2.mono (Evo.laid np)))⟩
        · cases hv
    | none =>
      rw [hk] at q
      obtain ⟨c0, g0, q⟩ := q
      exact ⟨c0, g0, fun rho' H' σ' Ev S' R' => q3 D σ' H' k c0 g0 kin (fun i' o' he' hv' => by rw [hk] at hv'; cases hv') fun _ => q rho' H' σ' Ev S' R'⟩
/-- name op= e, of ints -/
theorem aug_read (F : FitS g c N cf j X sc W) {x : Str} {xp p : Pos} {op : Operator} {o : Bop} {i : Nat} {e : Expr} {cc : C} (hi : ixOf N x = some i) (ho : augOf op = some o) (hl : sc.names.lookup x = some .local ∨ sc.names.lookup x = some .cell) (h : PE X e (tE g W ev cc)) : PS X (.AugAssign (.Name x xp) op e p) (tS g W (exS ev w (n + 1) (.aug i o cc))) := by
  have lx : Loc X.env.scope x := by rw [F.sc]; exact hl
  have base : ∀ {ti : TIp}, PIp X op ti → (∀ u v H Q, (∃ i j k, u = V.int i ∧ v = V.int j ∧ (match o with
      | .add => some (i + j)
      | .sub => some (i - j)
      | _ => none) = some k ∧ Q (.int k) H) → ti u v H Q) → PS X (.AugAssign (.Name x xp) op e p) (tS g W (exS ev w (n + 1) (.aug i o cc))) := by
    intro ti hp hti
    refine PS.imp (ps_aug (i := i) (by rw [F.hN]; exact F.nd) (by rw [F.hN]; exact ixOf_ok hi) lx h hp (.inl (F.fn x))) fun D σ H ⟨rho, e0, s, E, S, q⟩ => ?_
    have q : PoS g W D rho H (match e0[i]? with
      | some (some (.int x)) => (ev cc e0 s).to e0 fun y s1 => (match o, y with
        | .add, .int y => .ok .next (e0.set i (some (.int (x + y)))) s1
        | .sub, .int y => .ok .next (e0.set i (some (.int (x - y)))) s1
        | _, _ => .fail)
      | _ => .fail) := q
    split at q
    rotate_left
    · exact q.elim
    rename_i x0 hx0
    obtain ⟨z, z1, z2⟩ := E.at_ i _ hx0
    refine ⟨z, z1, rho, e0, s, E, S, PoS.to E q fun v s1 r1 H1 y _ E1 S1 R1 q1 => hti _ _ _ _ ?_⟩
    cases z2
    split at q1
    · cases R1
      exact ⟨_, _, _, rfl, rfl, rfl, q1 r1 H1 _ (Evo.refl _ _) S1 ((E.mono E1).set i (.int _))⟩
    · cases R1
      exact ⟨_, _, _, rfl, rfl, rfl, q1 r1 H1 _ (Evo.refl _ _) S1 ((E.mono E1).set i (.int _))⟩
    · exact q1.elim
  cases op <;> simp only [augOf, Option.some.injEq, reduceCtorEq] at ho <;> subst ho
  · refine base ip_add fun u v H Q ⟨i, j, k, a, b, e, q⟩ => ⟨i, j, a, b, ?_⟩
    cases e
    exact q
  · refine base ip_sub fun u v H Q ⟨i, j, k, a, b, e, q⟩ => ⟨i, j, a, b, ?_⟩
    cases e
    exact q
end
end Bw

set_option Elab.async false
set_option linter.all false
set_option maxRecDepth 100000
set_option maxHeartbeats 4000000
/-! Bw: stores, all statements -/
namespace Bw
open PySem PySem.Spec PyProof.Rows L2
section
variable {g : Gd} {c : Cfg} {N : List Str} {cf : CF} {j : Nat} {X : Cx} {sc : Scope} {W : WX} {rho rho' : List Addr} {H H' : Hp} {s : Sto} {σ : L2.St} {Q : VK} {ev : C → En → Sto → R D} {ex : S → En → Sto → RS} {D0 : Ends} {w n : Nat}
theorem set_asg {tg e : Expr} {t : T} {cc : C} {p : Pos} (h : PE X e (tE g W ev cc)) (hg : PG X tg (tG g ev TT t)) (hs : swapsWithSole [tg] e p.line X.env = pure false) (hw : swappedStores [tg] e X.env = pure none)
    (h1 : (assignEach [tg] X.env).map (·.2) = [assign tg X.env]) : PS X (.Assign [tg] e p) (tS g W (exS ev w (n + 1) (.set t cc))) :=
  PS.imp (ps_asg h hg hs hw h1) fun _ _ _ q => set_read q
theorem sw_yes {elt : Expr} {gs : List Comprehension} {scope : Scope} {x : Str} {xp pos : Pos} {l : Nat} (F : FitS g c N cf j X sc W) (h : swC sc x xp (.ListComp elt gs scope pos) = true) : swapsWith (.ListComp elt gs scope pos) (some (.Name x xp)) l X.env = pure true := by
  simp only [swC, Bool.and_eq_true, decide_eq_true_eq, Bool.not_eq_true'] at h
  exact sw_true F.kind (by rw [F.sc]; exact h.1.1) (by rw [h.1.2]; simp) h.2
theorem sw_nx {x : Str} {xp : Pos} {e : Expr} {l : Nat} (F : FitS g c N cf j X sc W) (h : isComp e = true → ¬ sc.names.lookup x = some .local) : swapsWith e (some (.Name x xp)) l X.env = pure false := by
  cases hc : isComp e with
  | false => exact sw_no hc _ _ _
  | true =>
    have hl : ¬ X.env.kindOf x = some .local := by
      show ¬ X.env.scope.names.lookup x = some .local
      rw [F.sc]
      exact h hc
    have hb : (X.env.kindOf x == some .local) = false := by
      cases hk : X.env.kindOf x with
      | none => rfl
      | some k => cases k <;> first | rfl | exact absurd hk hl
    cases e <;> first | (cases hc; done) | skip
    all_goals
      unfold swapsWith
      simp only [hb, Bool.and_false, Bool.false_and]
      first | done | rfl
theorem setLc_read (F : FitS g c N cf j X sc W) {x : Str} {xp p : Pos} {i : Nat} {e : Expr} {cc : C} {t : TE} (hl : sc.names.lookup x = some .local) (h : PS X (.Assign [.Name x xp] e p) (tAsg t (gName i))) (hi : ∀ σ H Q, tE g W ev cc σ H Q → t σ H Q) : PS X (.Assign [.Name x xp] e p) (tS g W (exS ev w (n + 1) (.set (.nm i) cc))) :=
  PS.imp h fun D σ H q => by
    obtain ⟨rho, e0, s, E, S, q⟩ := set_read q
    exact hi σ H _ ⟨rho, e0, s, E, S, Po.imp q fun x1 H1 z => tG_nm z trivial⟩
/-- two names at once -/
theorem par2_read {cf : CF} {gl : Str → Option D} {k : Nat} {ca cb : C} {i l : Nat} {st : Stmt} (h : PS X st (tPar i l (tA g W (evE cf gl k) [ca, cb]))) : PS X st (tS g W (exS (evE cf gl (k + 1)) w (n + 1) (.set (.tup [.nm i, .nm l]) (.tup [ca, cb])))) :=
  PS.imp h fun D σ H q => by
    obtain ⟨rho, e0, s, E, S, q⟩ := q
    have q : PoS g W D rho H ((((evs (evE cf gl k) [ca, cb] e0 s)).bind fun vs s1 => if vs.length ≤ lim then R.ok (Bw.D.tup vs) s1 else .fail).to e0 fun v s1 => (quiet (asg (evE cf gl (k + 1)) (.tup [.nm i, .nm l]) v e0 s1)).to e0 fun e1 s2 => .ok .next e1 s2) := q
    refine ⟨rho, e0, s, E, S, ?_⟩
    generalize evs (evE cf gl k) [ca, cb] e0 s = r at q ⊢
    cases r with
    | fail => exact q.elim
    | exc kk s1 =>
      obtain ⟨cc, h1, h2⟩ := q
      exact ⟨cc, h1, fun r2 H2 e2 S2 => h2 r2 H2 σ e2 S2 (E.mono e2)⟩
    | ok vs s1 =>
      intro r1 H1 xs E1 S1 R1
      have q : PoS g W D rho H ((if vs.length ≤ lim then R.ok (Bw.D.tup vs) s1 else .fail).to e0 fun v s1 => (quiet (asg (evE cf gl (k + 1)) (.tup [.nm i, .nm l]) v e0 s1)).to e0 fun e1 s2 => .ok .next e1 s2) := q
      split at q
      · have q : PoS g W D rho H ((quiet (if 2 = vs.length then asgs (evE cf gl (k + 1)) [.nm i, .nm l] vs e0 s1 else .fail)).to e0 fun e1 s2 => .ok .next e1 s2) := q
        split at q
        · cases R1 with
          | nil => rename_i h0; cases h0
          | cons ra r' =>
            cases r' with
            | nil => rename_i h0; cases h0
            | cons rb r'' =>
              cases r'' with
              | cons _ _ => rename_i h0; simp at h0
              | nil =>
                refine ⟨_, _, rfl, ?_⟩
                exact q r1 H1 _ E1 S1 (((E.mono E1).set i ra).set l rb)
        · exact q.elim
      · exact q.elim
theorem par3_read {cf : CF} {gl : Str → Option D} {k : Nat} {ca cb cd : C} {i l o : Nat} {st : Stmt} (h : PS X st (tPar3 i l o (tA g W (evE cf gl k) [ca, cb, cd]))) : PS X st (tS g W (exS (evE cf gl (k + 1)) w (n + 1) (.set (.tup [.nm i, .nm l, .nm o]) (.tup [ca, cb, cd])))) :=
  PS.imp h fun D σ H q => by
    obtain ⟨rho, e0, s, E, S, q⟩ := q
    have q : PoS g W D rho H ((((evs (evE cf gl k) [ca, cb, cd] e0 s)).bind fun vs s1 => if vs.length ≤ lim then R.ok (Bw.D.tup vs) s1 else .fail).to e0 fun v s1 => (quiet (asg (evE cf gl (k + 1)) (.tup [.nm i, .nm l, .nm o]) v e0 s1)).to e0 fun e1 s2 => .ok .next e1 s2) := q
    refine ⟨rho, e0, s, E, S, ?_⟩
    generalize evs (evE cf gl k) [ca, cb, cd] e0 s = r at q ⊢
    cases r with
    | fail => exact q.elim
    | exc kk s1 =>
      obtain ⟨cc, h1, h2⟩ := q
      exact ⟨cc, h1, fun r2 H2 e2 S2 => h2 r2 H2 σ e2 S2 (E.mono e2)⟩
    | ok vs s1 =>
      intro r1 H1 xs E1 S1 R1
      have q : PoS g W D rho H ((if vs.length ≤ lim then R.ok (Bw.D.tup vs) s1 else .fail).to e0 fun v s1 => (quiet (asg (evE cf gl (k + 1)) (.tup [.nm i, .nm l, .nm o]) v e0 s1)).to e0 fun e1 s2 => .ok .next e1 s2) := q
      split at q
      · have q : PoS g W D rho H ((quiet (if 3 = vs.length then asgs (evE cf gl (k + 1)) [.nm i, .nm l, .nm o] vs e0 s1 else .fail)).to e0 fun e1 s2 => .ok .next e1 s2) := q
        split at q
        · rename_i h0
          cases R1 with
          | nil => cases h0
          | cons ra r' =>
            cases r' with
            | nil => cases h0
            | cons rb r'' =>
              cases r'' with
              | nil => cases h0
              | cons rc r3 =>
                cases r3 with
                | cons _ _ => simp at h0
                | nil => exact ⟨_, _, _, rfl, q r1 H1 _ E1 S1 ((((E.mono E1).set i ra).set l rb).set o rc)⟩
        · exact q.elim
      · exact q.elim
theorem set_bad {t : T} {k : Nat} {gl : Str → Option D} {st : Stmt} : PS X st (tS g W (exS (evE cf gl (k + 1)) w (n + 1) (.set t .bad))) := PS.none fun D σ H ⟨_, _, _, _, _, z⟩ => z
/-- all statements -/
theorem sS (g : Gd) (c : Cfg) (N : List Str) (cf : CF) (j : Nat) (k w : Nat) : ∀ (n : Nat) (X : Cx) (sc : Scope) (W : WX) (m : Nat) (st : Stmt), FitS g c N cf j X sc W → PS X st (tS g W (exS (evE cf g.gl (k + 1)) w n (cS c N sc m st)))
  | 0, X, sc, W, m, st, F => PS.none fun D σ H ⟨_, _, _, _, _, z⟩ => z
  | n + 1, X, sc, W, 0, st, F => tS_bad
  | n + 1, X, sc, W, m + 1, st, F => by
    have I := sE g c N cf j (k + 1)
    have q : ∀ m e, PE X e (tE g W (evE cf g.gl (k + 1)) (cE c N m sc e)) := fun m e => I.pe X sc W m e F.toFit
    have qt : ∀ m e, PT X e (tT g W (evE cf g.gl (k + 1)) (cE c N m sc e)) := fun m e => I.pt X sc W m e F.toFit
    have qs : ∀ b : List Stmt, PSs X b (tS g W (exs (exS (evE cf g.gl (k + 1)) w n) (b.map (cS c N sc m)))) := fun b => pss_map (fun st => sS g c N cf j k w n X sc W m st F) b
    have qg : ∀ m e, PG X e (tG g (evE cf g.gl (k + 1)) TT (cTS c N sc m e)) := cTS_ok F q
    have Ik := sE g c N cf j k
    unfold cS
    split
    case h_1 =>
      rename_i x xp at_ ap e cp pos
      split
      · rename_i h
        simp only [Bool.and_eq_true, decide_eq_true_eq] at h
        obtain ⟨⟨h1, h2⟩, h3⟩ := h
        subst h3
        exact app_read (q m _) (q m _) h1 h2 rfl
      · exact tS_bad
    case h_2 =>
      rename_i e pos hne
      split
      · exact tS_bad
      · rename_i h
        exact ex_read (sw_no (by simpa using h) _ _ _) (q m e)
    case h_3 =>
      rename_i x xp op e pos
      split
      · rename_i i o hi ho
        split
        · rename_i hl
          exact aug_read F hi ho hl (q m e)
        · exact tS_bad
      · exact tS_bad
    case h_4 =>
      rename_i x xp e pos
      split
      · split
        · rename_i elt tg iter scope p hc
          split
          · rename_i kk hi
            split
            · rename_i hw
              cases m with
              | zero => exact set_bad
              | succ m =>
                simp only [cE]
                split
                · rename_i own ho
                  split
                  · rename_i hb
                    rw [Bool.and_eq_true] at hb
                    have hl : sc.names.lookup x = some .local := by
                      simp only [swC, Bool.and_eq_true, decide_eq_true_eq] at hw
                      exact hw.1.1
                    refine setLc_read F hl (L2.ps_setLc F.calm (by rw [F.hN]; exact F.nd) (by rw [F.hN]; exact ixOf_ok hi) (by rw [F.sc]; exact hl) (sw_yes F hw) (it_one F.toFit (fun m e => Ik.pe X sc W m e F.toFit) m iter tg) (by rw [F.hN, F.sc]; exact blkOk_by hb.1) (g := tG g (evE cf g.gl k) (Own (own.map (·.2))) (cT N m (relS scope sc) (own.map (·.2)) tg)) (tt := tYes) (te := tE g (fun _ _ _ _ => False) (evE cf g.gl k) (cE c N m (relS scope sc) elt))
                      (fun s H C cl fp => cT_ok (F.toFit.blk s H scope cl C fp).hN F.nd (F.toFit.blk s H scope cl C fp).sc (F.toFit.blk s H scope cl C fp).calm (own_cell ho hb.1 (fun _ h => h)) m tg) (fun _ _ _ _ _ => pts_nil) (fun s H C cl fp => Ik.pe _ _ _ m elt (F.toFit.blk s H scope cl C fp)) (fun x => fold_plain hb.2 X.env x)) fun σ H Q z => ?_
                    exact lc_read (ifs := none) (fun _ _ _ z => z) σ H Q z
                  · exact set_bad
                · exact set_bad
            · exact tS_bad
          · exact tS_bad
        · rename_i elt tg iter ie scope p hc
          split
          · rename_i kk hi
            split
            · rename_i hw
              cases m with
              | zero => exact set_bad
              | succ m =>
                simp only [cE]
                split
                · rename_i own ho
                  split
                  · rename_i hb
                    rw [Bool.and_eq_true] at hb
                    have hl : sc.names.lookup x = some .local := by
                      simp only [swC, Bool.and_eq_true, decide_eq_true_eq] at hw
                      exact hw.1.1
                    refine setLc_read F hl (L2.ps_setLc F.calm (by rw [F.hN]; exact F.nd) (by rw [F.hN]; exact ixOf_ok hi) (by rw [F.sc]; exact hl) (sw_yes F hw) (it_one F.toFit (fun m e => Ik.pe X sc W m e F.toFit) m iter tg) (by rw [F.hN, F.sc]; exact blkOk_by hb.1) (g := tG g (evE cf g.gl k) (Own (own.map (·.2))) (cT N m (relS scope sc) (own.map (·.2)) tg)) (tt := tT g (fun _ _ _ _ => False) (evE cf g.gl k) (cE c N m (relS scope sc) ie)) (te := tE g (fun _ _ _ _ => False) (evE cf g.gl k) (cE c N m (relS scope sc) elt))
                      (fun s H C cl fp => cT_ok (F.toFit.blk s H scope cl C fp).hN F.nd (F.toFit.blk s H scope cl C fp).sc (F.toFit.blk s H scope cl C fp).calm (own_cell ho hb.1 (fun _ h => h)) m tg) (fun s H C cl fp => pts_one (Ik.pt _ _ _ m ie (F.toFit.blk s H scope cl C fp))) (fun s H C cl fp => Ik.pe _ _ _ m elt (F.toFit.blk s H scope cl C fp)) (fun x => fold_plain hb.2 X.env x)) fun σ H Q z => ?_
                    exact lc_read (ifs := some _) (fun _ _ _ z => z) σ H Q z
                  · exact set_bad
                · exact set_bad
            · exact tS_bad
          · exact tS_bad
        · rename_i elt tg iter tg1 iter1 scope p hc
          split
          · rename_i kk hi
            split
            · rename_i hw
              cases m with
              | zero => exact set_bad
              | succ m =>
                simp only [cE]
                split
                · rename_i own ho
                  split
                  · rename_i hb
                    rw [Bool.and_eq_true, Bool.and_eq_true] at hb
                    have hl : sc.names.lookup x = some .local := by
                      simp only [swC, Bool.and_eq_true, decide_eq_true_eq] at hw
                      exact hw.1.1
                    refine setLc_read F hl (L2.ps_setLc2 F.calm (by rw [F.hN]; exact F.nd) (by rw [F.hN]; exact ixOf_ok hi) (by rw [F.sc]; exact hl) (sw_yes F hw) (it_one F.toFit (fun m e => Ik.pe X sc W m e F.toFit) m iter tg) (by rw [F.hN, F.sc]; exact blkOk_by hb.1.1) (vs1 := vs1Of N m (relS scope sc) (own.map (·.2)) tg1) (fun i hi => of_decide_eq_true (List.mem_filter.mp hi).2) (g := tG g (evE cf g.gl k) (Own (own.map (·.2))) (cT N m (relS scope sc) (own.map (·.2)) tg)) (tt := tYes)
                      (wi1 := tI g (fun _ _ _ _ => False) (evE cf g.gl k) (cI c N m (relS scope sc) iter1 tg1)) (g1 := tG g (evE cf g.gl k) (Own (vs1Of N m (relS scope sc) (own.map (·.2)) tg1)) (cT N m (relS scope sc) (vs1Of N m (relS scope sc) (own.map (·.2)) tg1) tg1)) (tt1 := tYes) (te := tE g (fun _ _ _ _ => False) (evE cf g.gl k) (cE c N m (relS scope sc) elt))
                      (fun s H C cl fp => cT_ok (F.toFit.blk s H scope cl C fp).hN F.nd (F.toFit.blk s H scope cl C fp).sc (F.toFit.blk s H scope cl C fp).calm (own_cell ho hb.1.1 (fun _ h => h)) m tg) (fun _ _ _ _ _ => pts_nil) (fun s H C cl fp => it_one (F.toFit.blk s H scope cl C fp) (fun m e => Ik.pe _ _ _ m e (F.toFit.blk s H scope cl C fp)) m iter1 tg1)
                      (fun s H C cl fp => cT_ok (F.toFit.blk s H scope cl C fp).hN F.nd (F.toFit.blk s H scope cl C fp).sc (F.toFit.blk s H scope cl C fp).calm (own_cell ho hb.1.1 (fun i hi => of_decide_eq_true (List.mem_filter.mp hi).2)) m tg1) (fun _ _ _ _ _ => pts_nil) (fun s H C cl fp => Ik.pe _ _ _ m elt (F.toFit.blk s H scope cl C fp)) (fun x => fold_plain hb.1.2 X.env x) (fun env x => fold_plain hb.2 env x)) fun σ H Q z => ?_
                    exact lc2_read σ H Q z
                  · exact set_bad
                · exact set_bad
            · exact tS_bad
          · exact tS_bad
        · exact tS_bad
      · rename_i h
        exact set_asg (q m e) (qg 1 _) (show swapsWithSole [.Name x xp] e pos.line X.env = pure false from by unfold swapsWithSole; exact sw_nx F (by simpa using h)) sw_name rfl
    case h_5 =>
      rename_i ts kt tp vs k2 p2 pos
      split
      · rename_i hw
        exact set_asg (q m _) (qg m _) (notC_tup _ _ _) (sw_ok F.kind (by rw [F.sc]; exact hw)) rfl
      · rename_i names hw
        have hw' : swappedStores [.Tuple ts kt tp] (.Tuple vs k2 p2) X.env = pure (some names) := sw_ok F.kind (by rw [F.sc]; exact hw)
        split
        · rename_i x xp y yp a b
          split
          · rename_i i l hi hl
            split
            · rename_i h
              obtain ⟨h0, h1, h2, h3, h4, h5⟩ := h
              subst h0
              cases m with
              | zero => exact set_bad
              | succ m =>
                simp only [cE]
                rw [if_pos (by rw [List.all_cons, List.all_cons, h1, h2]; rfl)]
                exact par2_read (ps_par F.calm (by rw [F.hN]; exact F.nd) (by rw [F.hN]; exact ixOf_ok hi) (by rw [F.hN]; exact ixOf_ok hl) (fun z => h5 (by
                  have := (ixOf_ok hi).symm.trans (z ▸ ixOf_ok hl)
                  cases this; rfl)) (by rw [F.sc]; exact h3) (by rw [F.sc]; exact h4) (pa_map (fun e => Ik.pe X sc W m e F.toFit) (es := [a, b]) (by rw [List.all_cons, List.all_cons, h1, h2]; rfl)) hw' (notC_tup _ _ _))
            · exact tS_bad
          · exact tS_bad
        · rename_i x xp y yp z zp a b d
          split
          · rename_i i l o hi hl ho
            split
            · rename_i h
              obtain ⟨h0, h1, h2, h2', h3, h4, h4', h5, h6, h7⟩ := h
              subst h0
              cases m with
              | zero => exact set_bad
              | succ m =>
                simp only [cE]
                rw [if_pos (by rw [List.all_cons, List.all_cons, List.all_cons, h1, h2, h2']; rfl)]
                exact par3_read (ps_par3 F.calm (by rw [F.hN]; exact F.nd) (by rw [F.hN]; exact ixOf_ok hi) (by rw [F.hN]; exact ixOf_ok hl) (by rw [F.hN]; exact ixOf_ok ho) (fun z => h5 (by
                  have := (ixOf_ok hi).symm.trans (z ▸ ixOf_ok hl)
                  cases this; rfl)) (fun z => h6 (by
                  have := (ixOf_ok hi).symm.trans (z ▸ ixOf_ok ho)
                  cases this; rfl)) (fun z => h7 (by
                  have := (ixOf_ok hl).symm.trans (z ▸ ixOf_ok ho)
                  cases this; rfl)) (by rw [F.sc]; exact h3) (by rw [F.sc]; exact h4) (by rw [F.sc]; exact h4') (pa_map (fun e => Ik.pe X sc W m e F.toFit) (es := [a, b, d]) (by rw [List.all_cons, List.all_cons, List.all_cons, h1, h2, h2']; rfl)) hw' (notC_tup _ _ _))
            · exact tS_bad
          · exact tS_bad
        · exact tS_bad
      · exact tS_bad
    case h_6 =>
      rename_i ts kt tp e pos hne
      exact set_asg (q m _) (qg m _) (notC_tup _ _ _) (sw_tup fun vs k2 p2 z => hne vs k2 p2 z) rfl
    case h_7 => exact set_asg (q m _) (qg m _) (notC_sub _ _ _) sw_sub rfl
    case h_8 => exact if_read (qt m _) (qs _) (qs _)
    case h_9 => exact whl_read F (qt m _) (qs _)
    case h_10 =>
      split
      · rename_i hp
        exact for_read F hp (it_one F.toFit q m _ _) (qg m _) (qs _)
      · exact tS_bad
    case h_11 => exact ret_read (q m _)
    case h_12 =>
      split
      · rename_i h
        exact rais_read F h.1 h.2.1 h.2.2
      · exact tS_bad
    case h_13 =>
      split
      · rename_i cs hc
        exact try_read F hc (fun X' W' F' => pss_map (fun st => sS g c N cf j k w n X' sc W' m st F') _)
      · exact tS_bad
    case h_14 => exact PS.imp ps_pass fun D σ H ⟨rho, e, s, E, S, h⟩ => h rho H σ (Evo.refl _ _) S E
    case h_15 => exact PS.imp ps_break fun D σ H ⟨rho, e, s, E, S, h⟩ => h rho H σ (Evo.refl _ _) S E
    case h_16 => exact PS.imp ps_continue fun D σ H ⟨rho, e, s, E, S, h⟩ => h rho H σ (Evo.refl _ _) S E
    case h_17 => exact tS_bad
end
end Bw

set_option Elab.async false
set_option linter.all false
set_option maxRecDepth 100000
set_option maxHeartbeats 4000000
/-! Bw: the places gone through, each once (a dict of numbers that is read in order) -/
namespace Bw
open PySem PySem.Spec PyProof.Rows L2
section
variable {g : Gd} {c : Cfg} {N : List Str} {cf : CF} {j : Nat} {X : Cx} {sc : Scope} {W : WX} {rho rho' : List Addr} {H H' : Hp} {s : Sto} {σ : L2.St} {fa : Nat → Option Addr} {p : Addr} {o : HO} {kv : List (Key × V)}
mutual
theorem RV.off (hp : H p = some (.dK kv)) : ∀ {v : V} {d : D}, RV fa rho H v d → RV fa rho (upd H p o) v d
  | _, _, .non => .non
  | _, _, .bl b => .bl b
  | _, _, .int i => .int i
  | _, _, .str x => .str x
  | _, _, .ref h => .ref h
  | _, _, .tup h n r => .tup (by rw [upd_ne (fun e => by rw [e, hp] at h; cases h)]; exact h) n (RVs.off hp r)
  | _, _, .lst h n r => .lst (by rw [upd_ne (fun e => by rw [e, hp] at h; cases h)]; exact h) n (RVs.off hp r)
  | _, _, .scr h n => .scr (by rw [upd_ne (fun e => by rw [e, hp] at h; cases h)]; exact h) n
  | _, _, .fn h => .fn h
theorem RVs.off (hp : H p = some (.dK kv)) : ∀ {vs : List V} {ds : List D}, RVs fa rho H vs ds → RVs fa rho (upd H p o) vs ds
  | _, _, .nil => .nil
  | _, _, .cons r rr => .cons (RV.off hp r) (RVs.off hp rr)
end
theorem StR.off (S : StR fa rho H s) (hp : H p = Option.some (.dK kv)) : StR fa rho (upd H p o) s := by
  refine ⟨S.len, S.nd, fun i a lk ds h q => ?_⟩
  obtain ⟨xs, h1, h2, h3⟩ := S.at_ i a lk ds h q
  exact ⟨xs, by rw [upd_ne (fun e => by rw [e, hp] at h1; cases h1)]; exact h1, h2.off hp, h3⟩
theorem EnR.off {e : En} (E : EnR fa rho H e σ) (hp : H p = some (.dK kv)) : EnR fa rho (upd H p o) e σ :=
  ⟨E.len, fun i d h => let ⟨x, h1, h2⟩ := E.at_ i d h; ⟨x, h1, h2.off hp⟩⟩
theorem Evo.off {H0 : Hp} (E : Evo rho H0 rho' H) (h0 : H0 p = none) : Evo rho H0 rho' (upd H p o) := by
  refine ⟨E.ext, fun a u h n => ?_, fun a h => ?_⟩
  · rw [upd_ne (ne_of_none h h0)]
    exact E.same a u h n
  · by_cases e : a = p
    · rw [e]; exact h0
    · rw [upd_ne e] at h
      exact E.there a h
def kvs (ks : List Int) : List (Key × V) := ks.map fun k => (.inl k, .bl true)
theorem kvs_any (a : Int) (ks : List Int) : ((kvs ks).any fun kv => decide (kv.1 = (.inl a : Key))) = decide (a ∈ ks) := by
  rw [Bool.eq_iff_iff, List.any_eq_true, decide_eq_true_iff]
  constructor
  · rintro ⟨x, hx, e⟩
    obtain ⟨k, hk, rfl⟩ := List.mem_map.mp hx
    have e : (Sum.inl k : Key) = .inl a := of_decide_eq_true e
    cases e
    exact hk
  · intro h
    exact ⟨(.inl a, .bl true), List.mem_map.mpr ⟨a, h, rfl⟩, decide_eq_true rfl⟩
theorem kvs_put {a : Int} {ks : List Int} (h : a ∉ ks) : putK (kvs ks) (.inl a : Key) (.bl true) = kvs (ks ++ [a]) := by
  unfold putK
  rw [kvs_any, decide_eq_false h, if_neg Bool.false_ne_true]
  simp [kvs]
theorem kvs_keys (ks : List Int) : ((kvs ks).map fun kv => kV kv.1) = ks.map V.int := by
  unfold kvs
  rw [List.map_map]
  rfl
theorem exs_one {ex : S → En → Sto → RS} {x : S} {e : En} : exs ex [x] e s = ex x e s := by
  show (match ex x e s with
    | .ok .next e1 s1 => exs ex [] e1 s1
    | r => r) = _
  cases ex x e s with
  | fail => rfl
  | exc _ _ _ => rfl
  | ok fl _ _ => cases fl <;> rfl
theorem pss_cons2 {ex : S → En → Sto → RS} {st : Stmt} {x : S} {b : List Stmt} {l : List S} (h1 : PS X st (tS g W (ex x))) (h2 : PSs X b (tS g W (exs ex l))) : PSs X (st :: b) (tS g W (exs ex (x :: l))) := by
  refine PSs.imp (pss_cons h1 h2) fun D σ H ⟨rho, e, s, E, S, h⟩ => ⟨rho, e, s, E, S, ?_⟩
  have h : PoS g W D rho H (match ex x e s with
    | .ok .next e1 s1 => exs ex l e1 s1
    | r => r) := h
  cases hr : ex x e s with
  | fail => rw [hr] at h; exact h
  | exc k e1 s1 => rw [hr] at h; exact h
  | ok fl e1 s1 =>
    rw [hr] at h
    cases fl with
    | next => exact fun r1 H1 σ1 E1 S1 R1 => ⟨r1, e1, s1, R1, S1, PoS.base h E1⟩
    | brk => exact h
    | cnt => exact h
    | ret v => exact h
theorem orb_read (F : FitS g c N cf j X sc W) {z a t l : Str} {z1 z2 z3 z4 dp a1 a2 a3 cp sp kp tp lp lcp tcp p1 p2 p3 p4 p5 : Pos} {kk : Nat} {e : Expr} {cc : C} {i k n w : Nat} {ev : C → En → Sto → R D} (hi : ixOf N z = some i) (hk : ixOf N a = some k) (oz : okN z = true) (oa : okN a = true)
    (lz : sc.names.lookup z = some .local) (la : sc.names.lookup a = some .local) (he : isComp e = false) (ht : t = "tuple") (hl : l = "list") (tl : sc.names.lookup t = some .globalImplicit) (ll : sc.names.lookup l = some .globalImplicit) (tb : t ∈ c.blt) (lb : l ∈ c.blt) (h : PE X e (tE g W ev cc)) :
    PSs X [.Assign [.Name z z1] (.Dict [] [] dp) p1, .While (.Compare (.Name a a1) [.NotIn] [.Name z z2] cp) [.Assign [.Subscript (.Name z z3) (.Name a a2) sp] (.Constant (.bool true) kk kp) p2, .Assign [.Name a a3] e p3] [] p4, .Return (some (.Call (.Name t tp) [.Call (.Name l lp) [.Name z z4] [] lcp] [] tcp)) p5]
      (tS g W (exs (exS ev w (n + 1)) [.orb i k cc])) := by
  subst ht hl
  have hu : X.A.units + 1 < cLine := by have := F.units; omega
  have vz : ∀ q, PE X (.Name z q) (tVar i) := fun q => pe_var (by rw [F.hN]; exact ixOf_ok hi) (by rw [F.sc]; exact .inl lz) (okN_dbg oz).1 (okN_dbg oz).2.1
  have va : ∀ q, PE X (.Name a q) (tVar k) := fun q => pe_var (by rw [F.hN]; exact ixOf_ok hk) (by rw [F.sc]; exact .inl la) (okN_dbg oa).1 (okN_dbg oa).2.1
  have P1 := ps_set (pos' := z1) (pos := p1) (by rw [F.hN]; exact F.nd) (by rw [F.hN]; exact ixOf_ok hi) (by rw [F.sc]; exact .inl lz) (pe_dnewK (X := X) (pos := dp)) rfl (.inl (F.fn z))
  have T := pt_cmp (pos := cp) (pc_dnotin hu (va a1) (vz z2)) (nomarkP rfl _)
  have B1 := ps_dput (pos := p2) (pos' := sp) hu (vz z3) (va a2) (pe_bl (X := X) (b := true) (j := kk) (pos := kp)) rfl
  have B2 := ps_set (pos' := a3) (pos := p3) (by rw [F.hN]; exact F.nd) (by rw [F.hN]; exact ixOf_ok hk) (by rw [F.sc]; exact .inl la) h (sw_no he _ _ _) (.inl (F.fn a))
  have LW := ps_while (pos := p4) F.own T (pss_cons B1 (pss_cons B2 pss_nil))
  have LI := pe_callTy (p := lp) (pos := lcp) (call_list_dK F.calm) (F.gl ll) (F.free lb (by decide)) (by decide +kernel) (pa_cons (vz z4) pa_nil) (by decide) (by decide) rfl rfl
  have RT := ps_ret (pos := p5) (pe_tupleOf (p := tp) (pos := tcp) (F.gl tl) (F.free tb (by decide)) LI)
  refine PSs.imp (pss_cons P1 (pss_cons LW (pss_cons RT pss_nil))) fun D σ H ⟨rho, e0, s, E, S, q⟩ => ?_
  have q : PoS g W D rho H (match e0[k]?, e0[i]? with
      | some (some (.int x)), some none => orbL ev cc k w [] x e0 s
      | _, _ => .fail) := by
    rw [exs_one] at q
    exact q
  revert q
  split
  rotate_left
  · exact fun q => q.elim
  rename_i x0 ek ei
  intro q
  intro p hp
  have pn := S.out hp
  have en : ∀ {rho' : List Addr} {H' : Hp} {e' : En} {σ' : L2.St} {a0 : Int}, EnR g.fa rho' H' e' σ' → e'[k]? = some (some (.int a0)) → σ'[k]? = some (some (.int a0)) := fun E h => by
    obtain ⟨x, h1, h2⟩ := E.at_ k _ h
    cases h2
    exact h1
  have ne : i ≠ k := fun z => by rw [z, ek] at ei; cases ei
  have il : i < σ.length := by
    rw [E.len]
    exact (List.getElem?_eq_some_iff.mp ei).1
  refine ⟨fun m σ' H' => ∃ rho' e' s' ks a0, EnR g.fa rho' H' e' σ' ∧ StR g.fa rho' H' s' ∧ Evo rho H rho' H' ∧ e'[k]? = some (some (.int a0)) ∧ σ'[i]? = some (some (.ref p)) ∧ H' p = some (.dK (kvs ks)) ∧ p ∉ rho' ∧ PoS g W D rho H (orbL ev cc k m ks a0 e' s'), ⟨w, rho, e0, s, [], x0, ?_, S.laid hp, Evo.laid hp, ek, List.getElem?_set_self il, upd_same, pn, q⟩, ?_⟩
  · have E1 : EnR g.fa rho (upd H p (.dK [])) e0 σ := E.mono (Evo.laid hp)
    refine ⟨by rw [List.length_set]; exact E1.len, fun y d hy => ?_⟩
    have yi : y ≠ i := fun z => by rw [z, ei] at hy; cases hy
    rw [List.getElem?_set_ne (Ne.symm yi)]
    exact E1.at_ y d hy
  rintro m σ' H' ⟨rho', e', s', ks, b0, E', S', V', ek', zi', dk', pn', q'⟩
  cases m with
  | zero => exact q'.elim
  | succ m =>
    refine ⟨_, en E' ek', _, zi', p, _, rfl, DGet.k (k := .inl b0) dk', _, rfl, ?_⟩
    rw [← valV_any, kvs_any]
    simp only [orbL] at q'
    by_cases hm : b0 ∈ ks
    · rw [if_pos (decide_eq_true hm)] at q'
      rw [decide_eq_true hm]
      refine iteF ?_
      refine ⟨_, zi', p, _, rfl, dk', fun u hu => .inl ⟨u, _, rfl, SqL.of upd_same, fun y hy => ?_⟩⟩
      have V1 : Evo rho' H' rho' (upd H' u (.lst ((kvs ks).map fun kv => kV kv.1))) := Evo.laid hu
      have V2 : Evo rho' (upd H' u (.lst ((kvs ks).map fun kv => kV kv.1))) rho' (upd (upd H' u (.lst ((kvs ks).map fun kv => kV kv.1))) y (.tup ((kvs ks).map fun kv => kV kv.1))) := Evo.laid hy
      have S2 := (S'.laid hu (o := .lst ((kvs ks).map fun kv => kV kv.1))).laid hy (o := .tup ((kvs ks).map fun kv => kV kv.1))
      refine q' rho' _ _ ((V'.trans V1).trans V2) S2 (.tup upd_same ((S'.laid hu).out hy) ?_)
      rw [kvs_keys]
      exact RVs.ofInts ks
    · rw [if_neg (by simpa using hm)] at q'
      rw [decide_eq_false hm]
      refine iteT ?_
      split at q'
      rotate_left
      · exact q'.elim
      rename_i hl
      have hl : ks.length < 100000 := of_decide_eq_true hl
      refine ⟨_, fun σ2 H2 z => ⟨m, Nat.lt_succ_self m, z⟩, ?_⟩
      refine ⟨_, zi', _, en E' ek', p, _, rfl, DPut.k (k := .inl b0) dk' (by rw [sizeLine_eq]; unfold kvs; rw [List.length_map]; omega), ?_⟩
      rw [kvs_put hm]
      refine ⟨rho', e', s', E'.off dk', S'.off dk', ?_⟩
      cases hr : ev cc e' s' with
      | fail => rw [hr] at q'; exact q'.elim
      | exc y s1 => rw [hr] at q'; exact q'.elim
      | ok v s1 =>
        rw [hr] at q'
        intro rho2 H2 x V2 S2 R2
        cases R2 <;> first | exact q'.elim | skip
        rename_i b1
        have kl : k < e'.length := (List.getElem?_eq_some_iff.mp ek').1
        refine ⟨rho2, e'.set k (some (.int b1)), s1, ks ++ [b0], b1, ((E'.off dk').mono V2).set k (.int b1), S2, (V'.off hp).trans V2, List.getElem?_set_self kl, ?_, V2.same p _ upd_same pn', V2.out upd_same pn', q'⟩
        rw [List.getElem?_set_ne (Ne.symm ne)]
        exact zi'
theorem pss_cB {k w n : Nat} (F : FitS g c N cf j X sc W) : ∀ b : List Stmt, PSs X b (tS g W (exs (exS (evE cf g.gl (k + 1)) w (n + 1)) (cB c N sc b)))
  | [] => PSs.imp pss_nil fun D σ H ⟨rho, e, s, E, S, h⟩ => h rho H σ (Evo.refl _ _) S E
  | st :: r => by
    unfold cB
    cases hc : orbC c N sc (st :: r) with
    | none =>
      exact pss_cons2 (sS g c N cf j k w (n + 1) X sc W 60 st F) (pss_cB F r)
    | some z =>
      obtain ⟨i, a, cc⟩ := z
      unfold orbC at hc
      split at hc
      rotate_left
      · cases hc
      split at hc
      rotate_left
      · cases hc
      split at hc
      rotate_left
      · cases hc
      split at hc
      rotate_left
      · cases hc
      rename_i heq h1 h2 _ _ y1 y2 hi hk
      cases heq
      obtain ⟨rfl, rfl, rfl, rfl, rfl, o1, o2, l1, l2, ic⟩ := h1
      obtain ⟨t1, t2, t3, t4, t5, t6⟩ := h2
      cases hc
      exact orb_read F hi hk o1 o2 l1 l2 ic t1 t2 t3 t4 t5 t6 ((sE g c N cf j (k + 1)).pe X sc W 59 _ F.toFit)
end
end Bw

set_option Elab.async false
set_option linter.all false
set_option maxRecDepth 100000
set_option maxHeartbeats 4000000
/-! Bw: defs keep what the small language says -/
namespace Bw
open PySem PySem.Spec PyProof.Rows L2
mutual
theorem RV.cutm {fa : Nat → Option Addr} {rho : List Addr} {H : Hp} {m : Nat} : ∀ {v : V} {d : D}, RV fa rho H v d → deep m d = true → RV fa (rho.take m) H v d
  | _, _, .non, _ => .non
  | _, _, .bl b, _ => .bl b
  | _, _, .int i, _ => .int i
  | _, _, .str x, _ => .str x
  | _, _, .ref h, q => .ref (by rw [List.getElem?_take_of_lt (of_decide_eq_true q)]; exact h)
  | _, _, .tup h n r, q => .tup h (fun z => n (List.mem_of_mem_take z)) (RVs.cutm r q)
  | _, _, .lst h n r, q => .lst h (fun z => n (List.mem_of_mem_take z)) (RVs.cutm r q)
  | _, _, .scr h n, _ => .scr h (fun z => n (List.mem_of_mem_take z))
  | _, _, .fn h, _ => .fn h
theorem RVs.cutm {fa : Nat → Option Addr} {rho : List Addr} {H : Hp} {m : Nat} : ∀ {vs : List V} {ds : List D}, RVs fa rho H vs ds → deeps m ds = true → RVs fa (rho.take m) H vs ds
  | _, _, .nil, _ => .nil
  | _, _, .cons a b, q => by
    have q2 := Bool.and_eq_true_iff.mp (show (deep m _ && deeps m _) = true from q)
    exact .cons (RV.cutm a q2.1) (RVs.cutm b q2.2)
end
/-- a def's text -/
structure Df where
  name : Str
  ps : List Str
  ns : List Str
  st : Stmt
  n : Nat := 60
  w : Nat := 100000
def Df.F (c : Cfg) (d : Df) : F := ⟨d.name, d.ps, d.ns, cB c d.ns (defScope d.st) (defBody d.st), d.n + 1, d.w⟩
def BindsN (fd : FuncData) (ps : List Str) : Prop := ∀ (s : Shared) (us : List Value), us.length = ps.length → BindsTo s fd ⟨us, []⟩ (ps.zip us)
def BindsK (fd : FuncData) (ps : List Str) (q : Nat × Nat × List Str × List Nat) : Prop := ∀ (s : Shared) (us ws : List Value), us.length = q.2.1 → ws.length = q.2.2.1.length → BindsTo s fd ⟨us, q.2.2.1.zip ws⟩ (ps.zip (gK q us ws))
theorem pick_rel : ∀ {pm : List Nat} {vs : List V} {us : List Value}, Vals vs us → match pick pm vs, pick pm us with
    | some a, some b => Vals a b
    | none, none => True
    | _, _ => False
  | [], vs, us, r => .nil
  | i :: is, vs, us, r => by
    have ih := pick_rel (pm := is) r
    unfold pick
    cases hv : vs[i]? with
    | none =>
      have : us[i]? = none := by
        rw [List.getElem?_eq_none_iff] at hv ⊢
        rw [← r.length]; exact hv
      rw [this]
      trivial
    | some v =>
      obtain ⟨u, h1, h2⟩ := r.get hv
      rw [h1]
      simp only
      cases h3 : pick is vs with
      | none =>
        rw [h3] at ih
        cases h4 : pick is us with
        | none => trivial
        | some b => rw [h4] at ih; exact ih.elim
      | some a =>
        rw [h3] at ih
        cases h4 : pick is us with
        | none => rw [h4] at ih; exact ih.elim
        | some b => rw [h4] at ih; exact .cons h2 ih
theorem BindsK.kb {K : PySem.W.Frag} {fd : FuncData} {ps : List Str} {q : Nat × Nat × List Str × List Nat} (hp : ps ≠ []) (h : BindsK fd ps q) : KBinds K fd ps q.2.2.1 (gK q) (gK q) := by
  refine ⟨fun s us ws _ hl => ?_, fun {vs us zs ws} r1 r2 => ?_⟩
  · by_cases hc : us.length = q.2.1 ∧ ws.length = q.2.2.1.length
    · exact h s us ws hc.1 hc.2
    · exfalso
      unfold gK at hl
      rw [if_neg hc] at hl
      exact hp (List.eq_nil_of_length_eq_zero hl.symm)
  · unfold gK
    by_cases hc : us.length = q.2.1 ∧ ws.length = q.2.2.1.length
    · rw [if_pos hc, if_pos (by rw [r1.length, r2.length]; exact hc)]
      have := pick_rel (pm := q.2.2.2) (r1.append r2)
      cases h1 : pick q.2.2.2 (vs ++ zs) with
      | none =>
        rw [h1] at this
        cases h2 : pick q.2.2.2 (us ++ ws) with
        | none => exact .nil
        | some b => rw [h2] at this; exact this.elim
      | some a =>
        rw [h1] at this
        cases h2 : pick q.2.2.2 (us ++ ws) with
        | none => rw [h2] at this; exact this.elim
        | some b => rw [h2] at this; exact this
    · rw [if_neg hc, if_neg (by rw [r1.length, r2.length]; exact hc)]
      exact .nil
theorem BindsN.binds {K : PySem.W.Frag} {fd : FuncData} {ps : List Str} (h : BindsN fd ps) : Binds K fd ps [] := fun s us _ hl => by
  rw [List.append_nil] at hl ⊢
  exact h s us hl
structure Ok (g : Gd) (c : Cfg) (ds : List Df) (K : PySem.W.Frag) (mg : Str → Option Value) : Prop where
  prog : g.P = ds.map (Df.F c)
  fns : c.fns = ds.map Df.name
  defs : ∀ k d, ds[k]? = some d → ∃ a fd, g.fa k = some a ∧ mg d.name = some (.ref a) ∧ FunD K d.name d.name (defArgs d.st) (defBody d.st) (defScope d.st) [] [] a fd ∧ BindsN fd d.ps ∧ FnScope d.ns d.ps (defScope d.st) ∧ ∀ q ∈ c.kwp, q.1 = k → d.ps ≠ [] ∧ BindsK fd d.ps q
  fnP : ∀ k a, g.fa k = some a → ∃ d, ds[k]? = some d
  blt : ∀ x ∈ c.blt, mg x = (mathN x).map Value.builtin
  con : ∀ x ∈ c.con, ∀ v, g.gl x = some v → ∃ u z, mg x = some u ∧ RelV z u ∧ ∀ rho H, RV g.fa rho H z v
  exc : ∀ x ∈ c.exc, ∃ C, mg x = some (.ref C) ∧ g.cl x = some (.ref C) ∧ PySem.W.excIn K C He.veBase "ValueError.__new__" = true ∧ PySem.W.keepIn K (.ref C) = true ∧ PySem.W.subIn K (.ref C) (.type "BaseException") = some true ∧ PySem.W.typeIn K (.ref C) = some (.type "type")
  exm : ∀ x ∈ c.exc, ∀ y ∈ c.exc, ∀ C E, g.cl x = some C → g.cl y = some E → PySem.W.exmOne K C E = some (decide (x = y))
  exo : ∀ x ∈ c.exc, ∀ E, mg x = some (.ref E) → ExcC K E ∧ PySem.W.kitOne K (.ref E) (.type "ValueError") = some (decide (x ∈ c.exb)) ∧ PySem.W.kitOne K (.ref E) (.type "LookupError") = some (decide (x ∈ c.exl))
theorem RVs.begun {fa : Nat → Option Addr} {rho : List Addr} {H : Hp} {vs : List V} {ds : List D} (r : RVs fa rho H vs ds) {N : List Str} {k : Nat} (hk : k = N.length - ds.length) : EnR fa rho H (ds.map some ++ List.replicate k none) (start N vs) := by
  have hl := r.length
  subst hk
  refine ⟨by simp [L2.start, hl], fun i d h => ?_⟩
  unfold L2.start
  by_cases hi : i < ds.length
  · rw [List.getElem?_append_left (by simpa using hi), List.getElem?_map] at h
    rw [List.getElem?_append_left (by simpa [hl] using hi), List.getElem?_map]
    obtain ⟨y, h1, h2⟩ : ∃ y, ds[i]? = some y ∧ y = d := by
      rw [List.getElem?_eq_getElem hi] at h ⊢
      exact ⟨_, rfl, by simpa using h⟩
    subst h2
    obtain ⟨v, q1, q2⟩ := r.at h1
    exact ⟨v, by rw [q1]; rfl, q2⟩
  · rw [List.getElem?_append_right (by simpa using hi), List.getElem?_replicate] at h
    split at h <;> cases h
theorem Evo.take {rho rho' : List Addr} {H H' : Hp} (e : Evo rho H rho' H') : Evo rho H (rho'.take rho.length) H' := by
  obtain ⟨l, rfl, hl⟩ := e.ext
  rw [List.take_left]
  exact ⟨⟨[], by simp, fun _ h => nomatch h⟩, e.same, e.there⟩
theorem StR.cut' {fa : Nat → Option Addr} {g : Gd} {rho rho' : List Addr} {H H' : Hp} {s : Sto} (S : StR g.fa rho' H' s) (e : Evo rho H rho' H') : StR g.fa (rho'.take rho.length) H' (s.take rho.length) := by
  obtain ⟨l, rfl, hl⟩ := e.ext
  rw [List.take_left]
  exact S.cut
section
variable {g : Gd} {c : Cfg} {ds : List Df} {P : Program} {w : World} {K : PySem.W.Frag} {mg : Str → Option Value}
theorem callF_len {gl : Str → Option D} {Q : List F} : ∀ d k f vs s, Q[k]? = some f → callF gl Q d k vs s ≠ .fail → vs.length = f.ps.length
  | 0, k, f, vs, s, hk, h => absurd rfl h
  | d + 1, k, f, vs, s, hk, h => by
    by_cases hl : vs.length = f.ps.length
    · exact hl
    · refine absurd ?_ h
      show (match Q[k]? with
        | none => R.fail
        | some f => _) = R.fail
      rw [hk]
      exact if_neg hl
/-- all defs, at each depth -/
theorem run_ok (O : Ok g c ds K mg) : ∀ (d k : Nat) (f : F), g.P[k]? = some f → ∃ a fd, g.fa k = some a ∧ mg f.name = some (.ref a) ∧ PySem.W.keepIn K (.ref a) = true ∧ BindsN fd f.ps ∧ (∀ q ∈ c.kwp, q.1 = k → f.ps ≠ [] ∧ BindsK fd f.ps q) ∧ ∀ base : Heap, FnOk P w K mg base (L2.CX P w) (d + 1) a fd f.ps (spI g (callF g.gl g.P d) k f.ps.length)
  | 0, k, f, hf => by
    rw [O.prog, List.getElem?_map] at hf
    cases hd : ds[k]? with
    | none => rw [hd] at hf; cases hf
    | some df =>
      rw [hd] at hf
      cases hf
      obtain ⟨a, fd, h1, h2, h3, h4, h5, h6⟩ := O.defs k df hd
      exact ⟨a, fd, h1, h2, h3.kp, h4, h6, fun base => ⟨fun vs H Q E h => h.1, fun A outer s H args us vs Q E hr he hb hv hs => by
        obtain ⟨_, _, _, _, _, _, z⟩ := hs
        exact z.elim⟩⟩
  | d + 1, k, f, hf => by
    have hf0 := hf
    rw [O.prog, List.getElem?_map] at hf
    cases hd : ds[k]? with
    | none => rw [hd] at hf; cases hf
    | some df =>
      rw [hd] at hf
      cases hf
      obtain ⟨a, fd, h1, h2, h3, h4, h5, h6⟩ := O.defs k df hd
      refine ⟨a, fd, h1, h2, h3.kp, h4, h6, fun base => h3.ok h5 (fun vs H Q E h => h.1) fun cdv A outer s H vs Q E hr hs => ?_⟩
      have FS : FitS g c df.ns (callF g.gl g.P d) (d + 1) (cxOf (L2.CX P w) P w K mg base df.ns df.name (defScope df.st) a cdv A outer s H E) (defScope df.st) (fun cls d _ H => E cls d H) := by
        refine { hN := rfl, nd := h5.nd, sc := rfl, calm := rfl, tk := takes_of rfl rfl rfl rfl, room := hr, j0 := Nat.succ_pos d, own := passes_of rfl, fns := ?_, len := fun k f ds s hk h => callF_len d k f ds s hk h, calls := fun k f hk => let ⟨a, fd, z1, z2, z3, z4, z6, z5⟩ := run_ok O d k f hk; ⟨a, fd, z1, z2, z3, z4.binds, z5 base, fun q hq hk => ⟨(z6 q hq hk).1, (z6 q hq hk).2.kb (z6 q hq hk).1⟩⟩, fnP := fun k a ha => (let ⟨_, hd0⟩ := O.fnP k a ha; ⟨_, (congrArg (fun l : List F => l[k]?) O.prog).trans ((List.getElem?_map ..).trans (congrArg _ hd0))⟩), blt := O.blt, con := O.con, fn := fun _ => rfl, kind := h5.kind, stk := rfl, frm := rfl, exm := O.exm, exo := O.exo, exc := fun x hx => ?_ }
        · rw [O.fns, O.prog, List.map_map]
          rfl
        · obtain ⟨C, q1, q2, q3, q4, q5, q6⟩ := O.exc x hx
          exact ⟨C, q1, q2, q3, q4, raises_own q5 q6⟩
      refine ⟨_, pss_cB (k := df.n) (w := df.w) (n := df.n) FS (defBody df.st), ?_⟩
      obtain ⟨hl, rho, es, st, S, r, q⟩ := hs
      have hl2 : es.length = (df.F c).ps.length := by rw [← r.length]; exact hl
      refine ⟨rho, es.map some ++ List.replicate (df.ns.length - es.length) none, st, r.begun rfl, S, ?_⟩
      have q : Po g E rho H (RV g.fa) (match g.P[k]? with
        | none => R.fail
        | some f => if es.length = f.ps.length then
          (match exs (exS (evE (callF g.gl g.P d) g.gl f.n) f.w f.n) f.body (es.map some ++ List.replicate (f.ns.length - es.length) none) st with
          | .ok (.ret v) _ s1 => back st.length v s1
          | .ok .next _ s1 => back st.length .non s1
          | .exc k _ s1 => .exc k (s1.take st.length)
          | _ => .fail) else .fail) Q := q
      rw [hf0] at q
      have q : Po g E rho H (RV g.fa) (if es.length = (df.F c).ps.length then
          (match exs (exS (evE (callF g.gl g.P d) g.gl (df.n + 1)) df.w (df.n + 1)) (cB c df.ns (defScope df.st) (defBody df.st)) (es.map some ++ List.replicate (df.ns.length - es.length) none) st with
          | .ok (.ret v) _ s1 => back st.length v s1
          | .ok .next _ s1 => back st.length .non s1
          | .exc k _ s1 => .exc k (s1.take st.length)
          | _ => .fail) else .fail) Q := q
      rw [if_pos hl2] at q
      generalize exs (exS (evE (callF g.gl g.P d) g.gl (df.n + 1)) df.w (df.n + 1)) (cB c df.ns (defScope df.st) (defBody df.st)) (es.map some ++ List.replicate (df.ns.length - es.length) none) st = res at q ⊢
      have bk : ∀ v s1, Po g E rho H (RV g.fa) (back st.length v s1) Q → ∀ rho' H' x, Evo rho H rho' H' → StR g.fa rho' H' s1 → RV g.fa rho' H' x v → Q x H' := by
        intro v s1 q rho' H' x e S' r'
        unfold back at q
        split at q
        · rename_i hdp
          rw [← S.len] at hdp q
          exact q (rho'.take rho.length) H' x e.take (StR.cut' (fa := g.fa) S' e) (r'.cutm hdp)
        · exact q rho' H' x e S' r'
      cases res with
      | fail => exact q
      | exc kk e1 s1 =>
        obtain ⟨cc, q1, q2⟩ := q
        refine ⟨cc, q1, fun rho' H' σ' e S' _ => ?_⟩
        rw [← S.len] at q2
        exact q2 _ H' e.take (StR.cut' (fa := g.fa) S' e)
      | ok fl e1 s1 =>
        cases fl with
        | next => exact fun rho' H' σ' e S' _ => bk .non s1 q rho' H' .non e S' .non
        | ret v => exact fun rho' H' x e S' r' => bk v s1 q rho' H' x e S' r'
        | brk => exact q.elim
        | cnt => exact q.elim
end
end Bw

set_option Elab.async false
set_option linter.all false
set_option maxRecDepth 100000
set_option maxHeartbeats 4000000
/-! Bw: a law's end -/
namespace Bw
open PySem PySem.Spec PyProof.Rows L2
def isLo (o : Obj) : Bool := decide (o.cls = .type "list")
def frN (g : Addr → Option Obj) (as : List Addr) : PySem.W.Frag := as.filterMap fun a => match g a with
  | some o => if isLo o then none else some (a, o)
  | none => none
theorem frN_at {g : Addr → Option Obj} {a : Addr} {o : Obj} : ∀ as : List Addr, (frN g as).lookup a = some o → g a = some o ∧ isLo o = false
  | [], e => nomatch (show (none : Option Obj) = some o from e)
  | b :: r, e => by
    unfold frN at e
    rw [List.filterMap_cons] at e
    cases hb : g b with
    | none =>
      rw [hb] at e
      exact frN_at r e
    | some ob =>
      rw [hb] at e
      cases hl : isLo ob with
      | true =>
        simp only [hl, if_true] at e
        exact frN_at r e
      | false =>
        simp only [hl] at e
        have e2 : (match a == b with | true => some ob | false => (frN g r).lookup a) = some o := e
        cases q : (a == b) with
        | true =>
          rw [q] at e2
          have eo : ob = o := Option.some.inj e2
          rw [beq_iff_eq.mp q, hb, eo]
          exact ⟨rfl, eo ▸ hl⟩
        | false =>
          rw [q] at e2
          exact frN_at r e2
def NoL (K : PySem.W.Frag) : Prop := ∀ a o, K.lookup a = some o → isLo o = false
def gcB (ms : List Str) (K : PySem.W.Frag) : Bool := ms.all fun x => match mathN x with
  | some n => He.eqO (PySem.W.nsIn K mainGlobals x) (some (some (.builtin n)))
  | none => false
def excB (K : PySem.W.Frag) (x : Str) : Bool :=
  He.eqO (PySem.W.findIn K (.ref (He.ga K x)) "__getattribute__") (some (some (.builtin "BaseException.__getattribute__"))) && (He.eqO (PySem.W.findIn K (.ref (He.ga K x)) "__getattr__") (some none) && (PySem.W.hasDictIn K (He.ga K x) &&
    (He.eqO (PySem.W.findIn K (.ref (He.ga K x)) "__class__") (some (some (.builtin "object.__class__"))) && (He.eqO (PySem.W.specialIn K (.builtin "object.__class__") "__get__") (some (some (.builtin "getset_descriptor.__get__"))) &&
      (decide (PySem.W.takesIn K (.builtin "object.__class__") = some true) && (decide (PySem.W.mroIn K (He.ga K x) (.type "object") = some true) && (decide (PySem.W.kitOne K (.ref (He.ga K x)) (.type "ValueError") = some true) && decide (PySem.W.kitOne K (.ref (He.ga K x)) (.type "LookupError") = some false))))))))
def exB (fa : List He.Fa) (K : PySem.W.Frag) : Bool := fa.all fun f => match f with
  | .exc x => excB K x
  | _ => true
def obsB (gc : List Str) (fa : List He.Fa) (fn : List He.DefD) (K : PySem.W.Frag) : He.AlD := ((gcB gc K && exB fa K) && (He.obsD fa fn K).1, (He.obsD fa fn K).2)
def SaysB (gc : List Str) (fa : List He.Fa) (fn : List He.DefD) (K : PySem.W.Frag) : Prop := obsB gc fa fn K = He.valD fn
def obsBG (n : Nat) (gc : List Str) (fa : List He.Fa) (fn : List He.DefD) (g : Addr → Option Obj) : He.AlD := obsB gc fa fn (frN g (He.asD g n))
def hookB (n : Nat) (gc : List Str) (fa : List He.Fa) (fn : List He.DefD) : PySem.W.Hook where
  α := He.AlD
  obs := fun s => obsBG n gc fa fn s.heap.get?
  val := fun _ => He.valD fn
  says := fun _ h => ∃ K : PySem.W.Frag, K.In h ∧ NoL K ∧ SaysB gc fa fn K
  of := fun _ _ e => ⟨_, fun a o q => (frN_at _ q).1, fun a o q => (frN_at _ q).2, e⟩
  keeps := fun _ _ _ ⟨K, hK, n, c⟩ k => ⟨K, PySem.W.Frag.In.keeps hK k, n, c⟩
theorem obsBG_eq {n : Nat} {gc : List Str} {fa : List He.Fa} {fn : List He.DefD} {g : Addr → Option Obj} {s : Shared} (h : ∀ a, g a = s.heap.get? a) : obsBG n gc fa fn g = (hookB n gc fa fn).obs s := by
  have e : g = s.heap.get? := funext h
  rw [e] <;> rfl
/-- a law's text and names -/
structure Lw where
  ds : List Df
  blt : List Str
  gc : List Str
  exc : List Str
  nums : List (Str × Int)
  inS : List (Nat × Nat)
  kwp : List (Nat × Nat × List Str × List Nat) := []
def Lw.c (l : Lw) : Cfg := ⟨l.ds.map Df.name, l.blt ++ l.gc, l.nums.map (·.1), l.inS, l.exc, l.kwp, l.exc, []⟩
def Lw.gl (l : Lw) : Str → Option D := fun x => (l.nums.lookup x).map D.int
def Lw.P (l : Lw) : List F := l.ds.map (Df.F l.c)
def Lw.g (l : Lw) (K : PySem.W.Frag) : Gd := ⟨fun k => (l.ds[k]?).map fun d => He.ga K d.name, fun x => some (.ref (He.ga K x)), l.gl, l.P⟩
def Lw.fa (l : Lw) : List He.Fa := l.ds.map (fun d => .glo d.name) ++ (l.blt.map .free ++ (l.exc.map .glo ++ (l.exc.map .exc ++ (l.nums.map (fun p => .int p.1 p.2) ++ l.exc.flatMap fun x => l.exc.map fun y => .exm x y (decide (x = y))))))
def Lw.fn (l : Lw) : List He.DefD := l.ds.map fun d => ⟨(d.name, none), d.name, d.name, defArgs d.st, defBody d.st, defScope d.st, [], []⟩
def Bd (d : Df) : Prop := ∀ (kV doc pm : Value) (an : Option Addr) (cdv ct : Value) (us : List Value), us.length = d.ps.length → bindArgs (PySem.W.fnOf d.name d.name (defArgs d.st) (defBody d.st) (defScope d.st) .none kV doc pm an cdv ct) ⟨us, []⟩ = pure (d.ps.zip us)
/-- a call by keywords binds -/
def KwB (ds : List Df) (q : Nat × Nat × List Str × List Nat) : Prop := ∀ d, ds[q.1]? = some d → d.ps ≠ [] ∧ ∀ (kV doc pm : Value) (an : Option Addr) (cdv ct : Value) (us ws : List Value), us.length = q.2.1 → ws.length = q.2.2.1.length →
  bindArgs (PySem.W.fnOf d.name d.name (defArgs d.st) (defBody d.st) (defScope d.st) .none kV doc pm an cdv ct) ⟨us, q.2.2.1.zip ws⟩ = pure (d.ps.zip (gK q us ws))
def AllKb (ds : List Df) : List (Nat × Nat × List Str × List Nat) → Prop
  | [] => True
  | q :: qs => KwB ds q ∧ AllKb ds qs
theorem AllKb.at {ds : List Df} : ∀ {qs : List (Nat × Nat × List Str × List Nat)} {q}, AllKb ds qs → q ∈ qs → KwB ds q
  | [], q, _, h => by cases h
  | x :: xs, q, b, h => by
    rcases List.mem_cons.mp h with rfl | h
    · exact b.1
    · exact AllKb.at b.2 h
theorem FunD.bindsKw {K : PySem.W.Frag} {x qual : Str} {params : Arguments} {body : List Stmt} {scope : Scope} {kws : List (Str × V)} {f : Addr} {fd : FuncData} (F : FunD K x qual params body scope [] kws f fd) {ps : List Str} {q : Nat × Nat × List Str × List Nat}
    (h : ∀ (kV doc pm : Value) (an : Option Addr) (cdv ct : Value) (us ws : List Value), us.length = q.2.1 → ws.length = q.2.2.1.length → bindArgs (PySem.W.fnOf x qual params body scope .none kV doc pm an cdv ct) ⟨us, q.2.2.1.zip ws⟩ = pure (ps.zip (gK q us ws))) : BindsK fd ps q := by
  intro s us ws h1 h2
  obtain ⟨oc, od, dV, kV, doc, pm, an, cdv, ct, osl, rfl, lk, hcd, hD, hK⟩ := F.ex
  rcases hD with ⟨_, rfl⟩ | ⟨e, _⟩
  · exact .of_eq (h kV doc pm an cdv ct us ws h1 h2)
  · exact absurd rfl e
def AllBd : List Df → Prop
  | [] => True
  | d :: ds => Bd d ∧ AllBd ds
theorem AllBd.at : ∀ {ds : List Df} {k : Nat} {d : Df}, AllBd ds → ds[k]? = some d → Bd d
  | [], k, d, _, h => by cases h
  | x :: xs, 0, d, b, h => by cases h; exact b.1
  | x :: xs, k + 1, d, b, h => AllBd.at (k := k) b.2 h
section
variable {l : Lw} {K : PySem.W.Frag} {h : Heap} {mg : Str → Option Value}
theorem Lw.facts (c : SaysB l.gc l.fa l.fn K) : gcB l.gc K = true ∧ exB l.fa K = true ∧ (∀ f ∈ l.fa, f.ok K = true) ∧ He.SaysD l.fa l.fn K := by
  have c0 : ((gcB l.gc K && exB l.fa K) && (He.obsD l.fa l.fn K).1) = true := congrArg (fun z : He.AlD => z.1) c
  have c1 := Bool.and_eq_true_iff.mp c0
  have c2 : ((l.fa.all fun f => f.ok K) && l.fn.all (fun d => d.ok K)) = true := c1.2
  refine ⟨(Bool.and_eq_true_iff.mp c1.1).1, (Bool.and_eq_true_iff.mp c1.1).2, fun f hf => List.all_eq_true.mp (Bool.and_eq_true_iff.mp c2).1 f hf, ?_⟩
  have c4 : obsB l.gc l.fa l.fn K = He.valD l.fn := c
  have e2 : (He.obsD l.fa l.fn K).2 = (He.valD l.fn).2 := (show (obsB l.gc l.fa l.fn K).2 = (He.valD l.fn).2 from congrArg (fun z : He.AlD => z.2) c4)
  show He.obsD l.fa l.fn K = He.valD l.fn
  exact Prod.ext c1.2 e2
theorem lookup_mem {ps : List (Str × Int)} {x : Str} {i : Int} (h : ps.lookup x = some i) : (x, i) ∈ ps := by
  induction ps with
  | nil => cases h
  | cons p ps ih =>
    obtain ⟨y, j⟩ := p
    have h2 : (match x == y with | true => some j | false => ps.lookup x) = some i := h
    cases q : (x == y) with
    | true =>
      rw [q] at h2
      cases h2
      rw [beq_iff_eq.mp q]
      exact List.mem_cons_self ..
    | false =>
      rw [q] at h2
      exact List.mem_cons_of_mem _ (ih h2)
theorem Lw.ok (X : K.In h) (G : h.Ns mainGlobals mg) (c : SaysB l.gc l.fa l.fn K) (hs : l.ds.all (fun d => C8.scC d.ns d.ps (defScope d.st)) = true) (hb : AllBd l.ds) (hkb : AllKb l.ds l.kwp) (hn : l.blt.all (fun x => (mathN x).isNone) = true) : Ok (l.g K) l.c l.ds K mg := by
  obtain ⟨c1, ce, c2, c3⟩ := Lw.facts c
  refine ⟨rfl, rfl, fun k d hd => ?_, fun k a hk => ?_, fun x hx => ?_, fun x hx v hv => ?_, fun x hx => ?_, fun x hx y hy C E h1 h2 => ?_, fun x hx E hE => ?_⟩
  · obtain ⟨fd, F⟩ := c3.def_ k (d := ⟨(d.name, none), d.name, d.name, defArgs d.st, defBody d.st, defScope d.st, [], []⟩) (by
      show (l.ds.map _)[k]? = _
      rw [List.getElem?_map, hd]; rfl)
    have F : FunD K d.name d.name (defArgs d.st) (defBody d.st) (defScope d.st) [] [] (He.ga K d.name) fd := F
    have m := He.glo_ok X G (c2 (.glo d.name) (List.mem_append_left _ (List.mem_map.mpr ⟨d, List.mem_of_getElem? hd, rfl⟩)))
    refine ⟨He.ga K d.name, fd, ?_, m, F, fun s us hl => F.bindsA (hb.at hd) s us hl, C8.fnScope_by (List.all_eq_true.mp hs d (List.mem_of_getElem? hd)), fun q hq e => ?_⟩
    · show (l.ds[k]?).map _ = _
      rw [hd]; rfl
    · obtain ⟨k1, k2⟩ := hkb.at hq d (by rw [e]; exact hd)
      exact ⟨k1, Bw.FunD.bindsKw F k2⟩
  · have hk : (l.ds[k]?).map (fun d => He.ga K d.name) = some a := hk
    cases hd : l.ds[k]? with
    | none => rw [hd] at hk; cases hk
    | some d => exact ⟨d, rfl⟩
  · have hx : x ∈ l.blt ++ l.gc := hx
    rcases List.mem_append.mp hx with hx | hx
    · have hne : mathN x = none := by
        have := List.all_eq_true.mp hn x hx
        simpa using this
      rw [hne]
      exact He.free_ok X G (c2 (.free x) (List.mem_append_right _ (List.mem_append_left _ (List.mem_map.mpr ⟨x, hx, rfl⟩))))
    · have q := List.all_eq_true.mp c1 x hx
      cases hm : mathN x with
      | none =>
        simp only [hm] at q
        cases q
      | some n =>
        simp only [hm] at q
        exact PySem.W.mg_of X G (He.eqO_ok q)
  · have hv : (l.nums.lookup x).map D.int = some v := hv
    cases hl : l.nums.lookup x with
    | none => rw [hl] at hv; cases hv
    | some i =>
      rw [hl] at hv
      cases hv
      have hm := lookup_mem hl
      obtain ⟨t, ht⟩ := He.int_ok X G (c2 (.int x i) (List.mem_append_right _ (List.mem_append_right _ (List.mem_append_right _ (List.mem_append_right _ (List.mem_append_left _ (List.mem_map.mpr ⟨(x, i), hm, rfl⟩)))))))
      exact ⟨_, .int i, ht, ⟨t, rfl⟩, fun _ _ => .int i⟩
  · have m := He.glo_ok X G (c2 (.glo x) (List.mem_append_right _ (List.mem_append_right _ (List.mem_append_left _ (List.mem_map.mpr ⟨x, hx, rfl⟩)))))
    obtain ⟨e1, e2, e3, e4⟩ := He.exc_ok (c2 (.exc x) (List.mem_append_right _ (List.mem_append_right _ (List.mem_append_right _ (List.mem_append_left _ (List.mem_map.mpr ⟨x, hx, rfl⟩))))))
    exact ⟨He.ga K x, m, rfl, e1, e2, e3, e4⟩
  · have h1 : some (Value.ref (He.ga K x)) = some C := h1
    have h2 : some (Value.ref (He.ga K y)) = some E := h2
    cases h1
    cases h2
    exact He.exm_ok (c2 (.exm x y (decide (x = y))) (List.mem_append_right _ (List.mem_append_right _ (List.mem_append_right _ (List.mem_append_right _ (List.mem_append_right _ (List.mem_flatMap.mpr ⟨x, hx, List.mem_map.mpr ⟨y, hy, rfl⟩⟩)))))))
  · have m := He.glo_ok X G (c2 (.glo x) (List.mem_append_right _ (List.mem_append_right _ (List.mem_append_left _ (List.mem_map.mpr ⟨x, hx, rfl⟩)))))
    rw [m] at hE
    cases hE
    have hm : He.Fa.exc x ∈ l.fa := List.mem_append_right _ (List.mem_append_right _ (List.mem_append_right _ (List.mem_append_left _ (List.mem_map.mpr ⟨x, hx, rfl⟩))))
    obtain ⟨_, _, e3, _⟩ := He.exc_ok (c2 (.exc x) hm)
    have q : excB K x = true := List.all_eq_true.mp ce _ hm
    unfold excB at q
    simp only [Bool.and_eq_true] at q
    obtain ⟨q1, q2, q3, q4, q5, q6, q7, q8, q9⟩ := q
    refine ⟨⟨He.eqO_ok q1, He.eqO_ok q2, e3, q3, He.eqO_ok q4, He.eqO_ok q5, of_decide_eq_true q6, of_decide_eq_true q7⟩, ?_, ?_⟩
    · rw [of_decide_eq_true q8]
      exact congrArg some (decide_eq_true hx).symm
    · rw [of_decide_eq_true q9]
      rfl
/-- a law's promise -/
def Lw.sp (l : Lw) (K : PySem.W.Frag) (d k : Nat) : Sp := fun vs H Q _ => spI (l.g K) (callF l.gl l.P d) k 1 vs H Q fun _ _ _ => False
theorem FnOk.toX0 {P : Program} {w : World} {base : Heap} {k : Nat} {f : Addr} {fd : FuncData} {ps : List Str} {sp : Sp} (F : FnOk P w K mg base (L2.CX P w) k f fd ps sp) : FnOk P w K mg base CX0 k f fd ps fun vs H Q _ => sp vs H Q fun _ _ _ => False := by
  refine ⟨fun vs H Q E h => F.len _ _ _ _ h, fun A outer s H args us vs Q E hr he hb hv hs => codeAny_mono (F.run A outer s H args us vs Q _ hr he hb hv hs) fun r s' h => ?_⟩
  cases r with
  | error e =>
    obtain ⟨_, _, _, _, _, _, _, _, _, _, _, _, z⟩ := h
    exact z.elim
  | ok fl =>
    cases fl with
    | next => exact False.elim h
    | brk => exact False.elim h
    | cont => exact False.elim h
    | ret u => exact h
theorem Lw.end_ (d k : Nat) {df : Df} (hk : l.ds[k]? = some df) (hps : df.ps = [("script" : Str)]) (hs : l.ds.all (fun d => C8.scC d.ns d.ps (defScope d.st)) = true) (hb : AllBd l.ds) (hkb : AllKb l.ds l.kwp) (hn : l.blt.all (fun x => (mathN x).isNone) = true)
    (main : ∀ ns : List Int, ns.length ≤ 63 → ∃ s, callF l.gl l.P d k [.scr ns] [] = .ok (.bl true) s)
    {P : Program} {w : World} {f : Addr} (X : K.In h) (NL : NoL K) (G : h.Ns mainGlobals mg) (hfa : mg df.name = some (.ref f)) (c : SaysB l.gc l.fa l.fn K) :
    ∃ fd : FuncData, (∀ (s : Shared) (v : Value), BindsTo s fd ⟨[v], []⟩ [("script", v)]) ∧
      (∀ (H : Hp) (a : Addr) (ns : List Int), ns.length ≤ 63 → Only H → SqL K H a (ns.map V.int) → l.sp K d k [.ref a] H (fun v _ => v = .bl true) fun _ _ _ => False) ∧
      ∀ base : Heap, K.In base → base.Ns mainGlobals mg → FnOk P w K mg base CX0 (d + 1) f fd ["script"] (l.sp K d k) := by
  have O := Lw.ok X G c hs hb hkb hn
  have hP : l.P[k]? = some (Df.F l.c df) := by
    show (l.ds.map _)[k]? = _
    rw [List.getElem?_map, hk]; rfl
  obtain ⟨a1, fd, q1, q2, q3, q4, _, q5⟩ := run_ok (P := P) (w := w) O d k _ hP
  have q2 : mg df.name = some (.ref a1) := q2
  rw [hfa] at q2
  cases q2
  refine ⟨fd, fun s v => ?_, fun H a ns hl hO hS => ?_, fun base _ _ => ?_⟩
  · have := q4 s [v] (by show 1 = df.ps.length; rw [hps]; rfl)
    have this : BindsTo s fd ⟨[v], []⟩ (df.ps.zip [v]) := this
    rw [hps] at this
    exact this
  · obtain ⟨s, hm⟩ := main ns hl
    refine ⟨rfl, [], [.scr ns], [], ⟨rfl, List.nodup_nil, fun i a lk ds h => by cases h⟩, .cons ?_ .nil, ?_⟩
    · rcases hS with hS | ⟨o, its, n, h1, h2, _⟩
      · rcases hO a with z | ⟨o, xs, z⟩
        · exfalso
          rcases hS with q | ⟨o, q⟩ <;> (rw [z] at q; cases q)
        · rcases hS with q | ⟨o, q⟩
          · rw [z] at q; cases q
          · exact .scr q (by simp)
      · have := NL a o h1
        unfold isLo at this
        rw [h2] at this
        simp at this
    · show Po (l.g K) _ [] H (RV (l.g K).fa) (callF l.gl l.P d k [.scr ns] []) _
      rw [hm]
      intro rho' H' x _ _ r
      cases r
      rfl
  · have := Bw.FnOk.toX0 (q5 base)
    rw [show (Df.F l.c df).ps = [("script" : Str)] from hps] at this
    exact this
end
end Bw

set_option Elab.async false
set_option linter.all false
set_option maxRecDepth 100000
set_option maxHeartbeats 4000000
/-! Bw: going through the small language by rewriting -/
namespace Bw
def fin (m : Nat) (r : RS) : R D := match r with
  | .ok (.ret v) _ s1 => back m v s1
  | .ok .next _ s1 => back m .non s1
  | .exc k _ s1 => .exc k (s1.take m)
  | _ => .fail
theorem callF_at {gl : PySem.Str → Option D} {P : List F} {d k : Nat} {f : F} {vs : List D} {s : Sto} (h : P[k]? = some f) (hl : vs.length = f.ps.length) : callF gl P (d + 1) k vs s = fin s.length (exs (exS (evE (callF gl P d) gl f.n) f.w f.n) f.body (vs.map some ++ List.replicate (f.ns.length - vs.length) none) s) := by
  show (match P[k]? with
        | none => R.fail
        | some f => _) = _
  rw [h]
  exact if_pos hl
/-! ways on, by name (rewriting does not go into them before they are reached) -/
def vw (o : Option (Option D)) (s : Sto) : R D := match o with
  | some (some v) => .ok v s
  | _ => .fail
def bw (o : Option Bool) (s : Sto) : R D := match o with
  | some v => .ok (.bl v) s
  | none => .fail
def sq (r : RS) (k : En → Sto → RS) : RS := match r with
  | .ok .next e s => k e s
  | r => r
def lp (r : RS) (k : En → Sto → RS) : RS := match r with
  | .ok .next e2 s2 => k e2 s2
  | .ok .cnt e2 s2 => k e2 s2
  | .ok .brk e2 s2 => .ok .next e2 s2
  | r => r
section
variable {α β : Type} (s : Sto) (e : En)
theorem w_bind (a : α) (f : α → Sto → R β) : (R.ok a s).bind f = f a s := rfl
theorem w_bindx (k : PySem.Str) (f : α → Sto → R β) : (R.exc k s).bind f = .exc k s := rfl
theorem w_to (a : α) (f : α → Sto → RS) : (R.ok a s).to e f = f a s := rfl
theorem w_tox (k : PySem.Str) (f : α → Sto → RS) : (R.exc (α := α) k s).to e f = .exc k e s := rfl
theorem w_quiet (a : α) : quiet (R.ok a s) = .ok a s := rfl
theorem w_sq (k : En → Sto → RS) : sq (.ok .next e s) k = k e s := rfl
theorem w_sqr (v : D) (k : En → Sto → RS) : sq (.ok (.ret v) e s) k = .ok (.ret v) e s := rfl
theorem w_sqx (x : PySem.Str) (k : En → Sto → RS) : sq (.exc x e s) k = .exc x e s := rfl
theorem w_lp (k : En → Sto → RS) : lp (.ok .next e s) k = k e s := rfl
theorem w_lpr (v : D) (k : En → Sto → RS) : lp (.ok (.ret v) e s) k = .ok (.ret v) e s := rfl
theorem w_vw (v : D) : vw (some (some v)) s = .ok v s := rfl
theorem w_bw (b : Bool) : bw (some b) s = .ok (.bl b) s := rfl
theorem w_fin (m : Nat) (v : D) : fin m (.ok (.ret v) e s) = back m v s := rfl
theorem w_finx (m : Nat) (k : PySem.Str) : fin m (.exc k e s) = .exc k (s.take m) := rfl
theorem w_up {m : Nat} {v : D} (h : deep m v = true) : back m v s = .ok v (s.take m) := if_pos h
end
abbrev Ev := C → En → Sto → R D
abbrev Ex := S → En → Sto → RS
def Kb (o : Bop) (b : C) (f : Ev) (e : En) (x : D) (s : Sto) : R D := (f b e s).bind (binD o x)
def Kc2 (o : Cop) (x y : D) (s : Sto) : R D := bw (cmpS o x y s) s
def Kq2 (o : Cop) (x y : D) (s : Sto) : R D := bw (cmpD o x y) s
def Kc (o : Cop) (b : C) (f : Ev) (e : En) (x : D) (s : Sto) : R D := (f b e s).bind (Kc2 o x)
def Kh3 (p : Cop) (c : C) (f : Ev) (e : En) (y : D) (s : Sto) : Option Bool → R D
  | some true => (f c e s).bind (Kq2 p y)
  | some false => .ok (.bl false) s
  | none => .fail
def Kh2 (o p : Cop) (c : C) (f : Ev) (e : En) (x y : D) (s : Sto) : R D := Kh3 p c f e y s (cmpD o x y)
def Kh (o p : Cop) (b c : C) (f : Ev) (e : En) (x : D) (s : Sto) : R D := (f b e s).bind (Kh2 o p c f e x)
def Ka2 (cs : List C) (f : Ev) (e : En) (x : D) (s : Sto) : Option Bool → R D
  | some true => evAnd f cs e s
  | some false => .ok x s
  | none => .fail
def Ka (cs : List C) (f : Ev) (e : En) (x : D) (s : Sto) : R D := Ka2 cs f e x s (truth s x)
def Ko2 (cs : List C) (f : Ev) (e : En) (x : D) (s : Sto) : Option Bool → R D
  | some false => evOr f cs e s
  | some true => .ok x s
  | none => .fail
def Ko (cs : List C) (f : Ev) (e : En) (x : D) (s : Sto) : R D := Ko2 cs f e x s (truth s x)
def Kn (b : Bool) (s : Sto) : R D := .ok (.bl (!b)) s
def KT2 (s : Sto) : Option Bool → R Bool
  | some b => .ok b s
  | none => .fail
def KT (x : D) (s : Sto) : R Bool := KT2 s (truth s x)
def Ki (a b : C) (f : Ev) (e : En) : Bool → Sto → R D
  | true, s => f a e s
  | false, s => f b e s
def Kg (x : D) (s : Sto) : R D := match x with
  | .int i => .ok (.int (-i)) s
  | _ => .fail
def Ks (ts : List Ty) (x : D) (s : Sto) : R D := bw (isAny x ts) s
def Kt (vs : List D) (s : Sto) : R D := if vs.length ≤ lim then .ok (.tup vs) s else .fail
def Kx (i : C) (f : Ev) (e : En) (x : D) (s : Sto) : R D := (f i e s).bind (ixD x)
def Kl3 (x : D) (l : Option Int) (h : Option Int) (s : Sto) : R D := slD x l h s
def Kl2 (hi : Option C) (f : Ev) (e : En) (x : D) (l : Option Int) (s : Sto) : R D := (evO f hi e s).bind (Kl3 x l)
def Kl (lo hi : Option C) (f : Ev) (e : En) (x : D) (s : Sto) : R D := (evO f lo e s).bind (Kl2 hi f e x)
def Km3 (m : Bool) (k : Nat) (s : Sto) : Option SO → R D
  | some (.lst _ xs) => if m then .ok (.ref k) (s.set k (.lst false xs)) else .ok (.lst xs) (s.take k)
  | none => .fail
def Km2 (m : Bool) (k : Nat) (_ : Unit) (s : Sto) : R D := Km3 m k s s[k]?
def Km (m : Bool) (el : C) (own : List Nat) (t : T) (ifs : Option C) (f : Ev) (e : En) (p : Src × List D) (s : Sto) : R D := (quiet (evComp f s.length el t ifs (wipeE e own) p.1 p.2.length 0 p.2 (s ++ [.lst true []]))).bind (Km2 m s.length)
def Ke2 (x : D) (xs : List D) (s : Sto) : R (List D) := .ok (x :: xs) s
def Ke (cs : List C) (f : Ev) (e : En) (x : D) (s : Sto) : R (List D) := (evs f cs e s).bind (Ke2 x)
def Kas (f : Ev) (ts : List T) (vs : List D) (e : En) (s : Sto) : R En := asgs f ts vs e s
def Ku3 (e : En) : Option Sto → R En
  | some s => .ok e s
  | none => .fail
def Ku2 (v : D) (e : En) (x k : D) (s : Sto) : R En := match x, k with
  | .ref j, .int n => Ku3 e (sto s j n v)
  | _, _ => .fail
def Ku (i : C) (f : Ev) (v : D) (e : En) (x : D) (s : Sto) : R En := (f i e s).bind (Ku2 v e x)
def Kset2 (e : En) (s : Sto) : RS := .ok .next e s
def Kset (f : Ev) (t : T) (e : En) (v : D) (s : Sto) : RS := (quiet (asg f t v e s)).to e Kset2
def Kret (e : En) (v : D) (s : Sto) : RS := .ok (.ret v) e s
def Kif (ex : Ex) (a b : List S) (e : En) : Bool → Sto → RS
  | true, s => exs ex a e s
  | false, s => exs ex b e s
def Kw (f : Ev) (ex : Ex) (c : C) (b : List S) (n : Nat) (e : En) : Bool → Sto → RS
  | true, s => lp (exs ex b e s) (exWhl f ex c b n)
  | false, s => .ok .next e s
section
variable (o p : Cop) (bo : Bop) (c : C) (cs : List C) (f : Ev) (ex : Ex) (e : En) (x y v : D) (xs vs : List D) (s : Sto) (b : Bool) (i j n : Int) (A B : C) (m : Bool) (k : Nat)
theorem k_b : Kb bo c f e x s = (f c e s).bind (binD bo x) := rfl
theorem k_c2 : Kc2 o x y s = bw (orC (cmpD o x y) (cmpD o (rs s x) (rs s y))) s := rfl
theorem k_q2 : Kq2 o x y s = bw (cmpD o x y) s := rfl
theorem w_or (k : Bool) (z : Option Bool) : orC (some k) z = some k := rfl
theorem k_c : Kc o c f e x s = (f c e s).bind (Kc2 o x) := rfl
theorem k_ht : Kh3 p c f e y s (some true) = (f c e s).bind (Kq2 p y) := rfl
theorem k_hf : Kh3 p c f e y s (some false) = .ok (.bl false) s := rfl
theorem k_h2 : Kh2 o p c f e x y s = Kh3 p c f e y s (cmpD o x y) := rfl
theorem k_h : Kh o p A c f e x s = (f A e s).bind (Kh2 o p c f e x) := rfl
theorem k_at : Ka2 cs f e x s (some true) = evAnd f cs e s := rfl
theorem k_af : Ka2 cs f e x s (some false) = .ok x s := rfl
theorem k_a : Ka cs f e x s = Ka2 cs f e x s (truth s x) := rfl
theorem k_ot : Ko2 cs f e x s (some true) = .ok x s := rfl
theorem k_of : Ko2 cs f e x s (some false) = evOr f cs e s := rfl
theorem k_o : Ko cs f e x s = Ko2 cs f e x s (truth s x) := rfl
theorem k_n : Kn b s = .ok (.bl (!b)) s := rfl
theorem k_T2 : KT2 s (some b) = .ok b s := rfl
theorem k_T : KT x s = KT2 s (truth s x) := rfl
theorem k_it : Ki A B f e true s = f A e s := rfl
theorem k_if : Ki A B f e false s = f B e s := rfl
theorem k_g : Kg (.int i) s = .ok (.int (-i)) s := rfl
theorem k_s (ts) : Ks ts x s = bw (isAny x ts) s := rfl
theorem k_t (h : vs.length ≤ lim) : Kt vs s = .ok (.tup vs) s := if_pos h
theorem k_x : Kx c f e x s = (f c e s).bind (ixD x) := rfl
theorem k_l3 (l h) : Kl3 x l h s = slD x l h s := rfl
theorem k_l2 (hi l) : Kl2 hi f e x l s = (evO f hi e s).bind (Kl3 x l) := rfl
theorem k_l (lo hi) : Kl lo hi f e x s = (evO f lo e s).bind (Kl2 hi f e x) := rfl
theorem k_m2 (u) : Km2 m k u s = Km3 m k s s[k]? := rfl
theorem k_m3f (lk) : Km3 false k s (some (.lst lk xs)) = .ok (.lst xs) (s.take k) := rfl
theorem k_m3t (lk) : Km3 true k s (some (.lst lk xs)) = .ok (.ref k) (s.set k (.lst false xs)) := rfl
theorem k_m (own t ifs p) : Km m c own t ifs f e p s = (quiet (evComp f s.length c t ifs (wipeE e own) p.1 p.2.length 0 p.2 (s ++ [.lst true []]))).bind (Km2 m s.length) := rfl
theorem k_e2 : Ke2 x xs s = .ok (x :: xs) s := rfl
theorem k_e : Ke cs f e x s = (evs f cs e s).bind (Ke2 x) := rfl
theorem k_as (ts) : Kas f ts vs e s = asgs f ts vs e s := rfl
theorem k_u3 : Ku3 e (some s) = .ok e s := rfl
theorem k_u2 : Ku2 v e (.ref k) (.int n) s = Ku3 e (sto s k n v) := rfl
theorem k_u : Ku c f v e x s = (f c e s).bind (Ku2 v e x) := rfl
theorem k_set2 : Kset2 e s = .ok .next e s := rfl
theorem k_set (t) : Kset f t e v s = (quiet (asg f t v e s)).to e Kset2 := rfl
theorem k_ret : Kret e v s = .ok (.ret v) e s := rfl
theorem k_ift (a b) : Kif ex a b e true s = exs ex a e s := rfl
theorem k_iff (a b) : Kif ex a b e false s = exs ex b e s := rfl
theorem k_wt (b n) : Kw f ex c b n e true s = lp (exs ex b e s) (exWhl f ex c b n) := rfl
theorem k_wf (b n) : Kw f ex c b n e false s = .ok .next e s := rfl
end
section
variable (cf : CF) (gl : PySem.Str → Option D) (n : Nat) (e : En) (s : Sto)
theorem e_cst (d) : evE cf gl (n+1) (.cst d) e s = .ok d s := rfl
theorem e_var (i) : evE cf gl (n+1) (.var i) e s = vw e[i]? s := rfl
theorem e_bin (o a b) : evE cf gl (n+1) (.bin o a b) e s = (evE cf gl n a e s).bind (Kb o b (evE cf gl n) e) := rfl
theorem e_neg (a) : evE cf gl (n+1) (.neg a) e s = (evE cf gl n a e s).bind Kg := rfl
theorem e_cmp (o a b) : evE cf gl (n+1) (.cmp o a b) e s = (evE cf gl n a e s).bind (Kc o b (evE cf gl n) e) := rfl
theorem e_chain (o p a b c) : evE cf gl (n+1) (.chain o p a b c) e s = (evE cf gl n a e s).bind (Kh o p b c (evE cf gl n) e) := rfl
theorem e_and (es) : evE cf gl (n+1) (.and es) e s = evAnd (evE cf gl n) es e s := rfl
theorem e_or (es) : evE cf gl (n+1) (.or es) e s = evOr (evE cf gl n) es e s := rfl
theorem e_not (a) : evE cf gl (n+1) (.not a) e s = (evT (evE cf gl n) a e s).bind Kn := rfl
theorem e_ife (t a b) : evE cf gl (n+1) (.ife t a b) e s = (evT (evE cf gl n) t e s).bind (Ki a b (evE cf gl n) e) := by
  show R.bind _ _ = R.bind _ _
  congr 1
  funext k s1
  cases k <;> rfl
theorem e_call (k es) : evE cf gl (n+1) (.call k es) e s = (evs (evE cf gl n) es e s).bind (cf k) := rfl
theorem e_bi (f es) : evE cf gl (n+1) (.bi f es) e s = (evs (evE cf gl n) es e s).bind (biD f) := rfl
theorem e_isi (a ts) : evE cf gl (n+1) (.isi a ts) e s = (evE cf gl n a e s).bind (Ks ts) := rfl
theorem e_tup (es) : evE cf gl (n+1) (.tup es) e s = (evs (evE cf gl n) es e s).bind Kt := rfl
theorem e_lst (m es) : evE cf gl (n+1) (.lst m es) e s = (evs (evE cf gl n) es e s).bind (mkL m) := rfl
theorem e_ix (a i) : evE cf gl (n+1) (.ix a i) e s = (evE cf gl n a e s).bind (Kx i (evE cf gl n) e) := rfl
theorem e_sl (a lo hi) : evE cf gl (n+1) (.sl a lo hi) e s = (evE cf gl n a e s).bind (Kl lo hi (evE cf gl n) e) := rfl
theorem e_comp (m el own t it ifs) : evE cf gl (n+1) (.comp m el own t it ifs) e s = (evIt (evE cf gl n) it e s).bind (Km m el own t ifs (evE cf gl n) e) := by
  rfl
end
section
variable (ev : C → En → Sto → R D) (e : En) (s : Sto)
theorem es_nil : evs ev [] e s = .ok [] s := rfl
theorem es_cons (c cs) : evs ev (c :: cs) e s = (ev c e s).bind (Ke cs ev e) := rfl
theorem e_T (c) : evT ev c e s = (ev c e s).bind KT := by
  rfl
theorem eA_one (c) : evAnd ev [c] e s = ev c e s := rfl
theorem eA_cons (c d cs) : evAnd ev (c :: d :: cs) e s = (ev c e s).bind (Ka (d :: cs) ev e) := by
  rfl
theorem eO_one (c) : evOr ev [c] e s = ev c e s := rfl
theorem eO_cons (c d cs) : evOr ev (c :: d :: cs) e s = (ev c e s).bind (Ko (d :: cs) ev e) := by
  rfl
theorem tr_bl (b : Bool) : truth s (.bl b) = some b := rfl
theorem tr_int (i : Int) : truth s (.int i) = some (i != 0) := rfl
theorem a_nm (i v) : asg ev (.nm i) v e s = .ok (e.set i (some v)) s := by rw [asg]
theorem a_tup (ts vs) (h : ts.length = vs.length) : asg ev (.tup ts) (.tup vs) e s = asgs ev ts vs e s := by rw [asg, if_pos h]
theorem a_sub (a i v) : asg ev (.sub a i) v e s = (ev a e s).bind (Ku i ev v e) := by
  have : asg ev (.sub a i) v e s = (ev a e s).bind fun x s1 => (ev i e s1).bind fun k s2 => match x, k with
    | .ref j, .int n => (match sto s2 j n v with
      | some s3 => .ok e s3
      | none => .fail)
    | _, _ => .fail := by cases v <;> (rw [asg]; try rfl)
  rw [this]
  rfl
theorem as_nil : asgs ev [] [] e s = .ok e s := by rw [asgs]
theorem as_cons (t ts v vs) : asgs ev (t :: ts) (v :: vs) e s = (asg ev t v e s).bind (Kas ev ts vs) := by
  rw [asgs]
  rfl
variable (ex : S → En → Sto → RS) (w n : Nat)
theorem x_nil : exs ex [] e s = .ok .next e s := rfl
theorem x_cons (c cs) : exs ex (c :: cs) e s = sq (ex c e s) (exs ex cs) := rfl
theorem x_set (t c) : exS ev w (n+1) (.set t c) e s = (ev c e s).to e (Kset ev t e) := rfl
theorem x_ife (c a b) : exS ev w (n+1) (.ife c a b) e s = (evT ev c e s).to e (Kif (exS ev w n) a b e) := by
  show R.to _ _ _ = R.to _ _ _
  congr 1
  funext k s1
  cases k <;> rfl
theorem x_ret (c) : exS ev w (n+1) (.ret c) e s = (ev c e s).to e (Kret e) := rfl
theorem x_rais (k) : exS ev w (n+1) (.rais k) e s = .exc k e s := rfl
theorem x_whl (c b) : exS ev w (n+1) (.whl c b) e s = exWhl ev (exS ev w n) c b w e s := rfl
theorem whl_go (c b) : exWhl ev ex c b (n + 1) e s = (evT ev c e s).to e (Kw ev ex c b n e) := by
  show R.to _ _ _ = R.to _ _ _
  congr 1
  funext k s1
  cases k <;> rfl
end
end Bw

set_option Elab.async false
set_option linter.all false
set_option maxRecDepth 100000
set_option maxHeartbeats 4000000
/-! Bw: operations on values, by rewriting -/
namespace Bw
section
variable (i j : Int) (s : Sto) (xs : List D) (k : Nat)
theorem b_add : binD .add (.int i) (.int j) s = .ok (.int (i + j)) s := rfl
theorem b_sub : binD .sub (.int i) (.int j) s = .ok (.int (i - j)) s := rfl
theorem b_mul (h : okMul i j = true) : binD .mul (.int i) (.int j) s = .ok (.int (i * j)) s := if_pos h
theorem b_fdiv (h : okDiv j = true) : binD .fdiv (.int i) (.int j) s = .ok (.int (i / j)) s := if_pos h
theorem b_mod (h : 0 < j) : binD .mod (.int i) (.int j) s = .ok (.int (i % j)) s := if_pos h
theorem b_lt : cmpD .lt (.int i) (.int j) = some (decide (i < j)) := rfl
theorem b_le : cmpD .le (.int i) (.int j) = some (decide (i ≤ j)) := rfl
theorem b_gt : cmpD .gt (.int i) (.int j) = some (decide (j < i)) := rfl
theorem b_ge : cmpD .ge (.int i) (.int j) = some (decide (j ≤ i)) := rfl
theorem b_eq : cmpD .eq (.int i) (.int j) = some (decide (i = j)) := by
  show some (PySem.PyData.eqv (.int i) (.int j)) = _
  congr 1
theorem b_ne : cmpD .ne (.int i) (.int j) = some (!decide (i = j)) := by
  show some (!(PySem.PyData.eqv (.int i) (.int j))) = _
  congr 1
theorem u_abs : biD .abs [.int i] s = .ok (.int (if i < 0 then -i else i)) s := rfl
theorem u_inti : biD .int [.int i] s = .ok (.int i) s := rfl
theorem u_intb (b : Bool) : biD .int [.bl b] s = .ok (.int (if b then 1 else 0)) s := rfl
theorem u_gcd : biD .gcd [.int i, .int j] s = .ok (.int ((Nat.gcd i.natAbs j.natAbs : Nat) : Int)) s := rfl
theorem u_lenT : biD .len [.tup xs] s = .ok (.int xs.length) s := rfl
theorem u_lenL : biD .len [.lst xs] s = .ok (.int xs.length) s := rfl
theorem is_i (ts) : isAny (.int i) ts = some (ts.any fun u => Ty.is .int u) := rfl
theorem ix_ref {lk : Bool} {n : Int} {p : Nat} {v : D} (h : s[k]? = some (.lst lk xs)) (h1 : place xs.length n = some p) (h2 : xs[p]? = some v) : ixD (.ref k) (.int n) s = .ok v s := by
  show (match items s (.ref k) with
    | some xs => (match place xs.length n with
      | some j => (match xs[j]? with
        | some v => .ok v s
        | none => .fail)
      | none => .fail)
    | none => .fail) = R.ok v s
  have : items s (.ref k) = some xs := by simp only [items, h]
  rw [this]
  simp only [h1, h2]
theorem ix_tup {n : Int} {p : Nat} {v : D} (h1 : place xs.length n = some p) (h2 : xs[p]? = some v) : ixD (.tup xs) (.int n) s = .ok v s := by
  show (match place xs.length n with
      | some j => (match xs[j]? with
        | some v => .ok v s
        | none => .fail)
      | none => .fail) = R.ok v s
  simp only [h1, h2]
theorem okDiv_by {j : Int} (h : 0 < j) (h2 : j < 2 ^ 8999) : okDiv j = true := by
  unfold okDiv
  refine decide_eq_true ⟨h, ?_⟩
  have h3 : j.natAbs < 2 ^ 8999 := by omega
  have h4 : j.natAbs ≠ 0 := by omega
  exact Nat.lt_trans ((Nat.log2_lt h4).mpr h3) (by decide)
theorem okMul_l {i j : Int} (h1 : -18446744073709551616 < i) (h2 : i < 18446744073709551616) : okMul i j = true := by
  unfold okMul small
  rw [Bool.or_eq_true]
  exact .inl (decide_eq_true ⟨by simpa using h1, by simpa using h2⟩)
theorem okMul_r {i j : Int} (h1 : -18446744073709551616 < j) (h2 : j < 18446744073709551616) : okMul i j = true := by
  unfold okMul small
  rw [Bool.or_eq_true, Bool.or_eq_true]
  exact .inr (.inl (decide_eq_true ⟨by simpa using h1, by simpa using h2⟩))
end
end Bw

set_option Elab.async false
set_option linter.all false
set_option maxRecDepth 100000
set_option maxHeartbeats 4000000
/-! Bw: lists made and gone over, by rewriting -/
namespace Bw
section
variable (f : Ev) (ix : Nat) (el : C) (t : T) (rho e : En) (n k : Nat) (x y : D) (xs : List D) (s : Sto)
theorem is_iI : isAny (.int a) [.int] = some true := rfl
theorem is_iB : isAny (.int a) [.bool] = some false := rfl
theorem is_iL : isAny (.int a) [.list] = some false := rfl
theorem is_iT : isAny (.int a) [.tuple] = some false := rfl
theorem is_iLT : isAny (.int a) [.list, .tuple] = some false := rfl
theorem is_iBS : isAny (.int a) [.bool, .str] = some false := rfl
theorem is_bI : isAny (.bl a) [.int] = some true := rfl
theorem is_bB : isAny (.bl a) [.bool] = some true := rfl
theorem is_bLT : isAny (.bl a) [.list, .tuple] = some false := rfl
theorem is_bBS : isAny (.bl a) [.bool, .str] = some true := rfl
theorem is_tL : isAny (.tup xs) [.list] = some false := rfl
theorem is_tT : isAny (.tup xs) [.tuple] = some true := rfl
theorem is_tLT : isAny (.tup xs) [.list, .tuple] = some true := rfl
theorem is_lL : isAny (.lst xs) [.list] = some true := rfl
theorem is_lT : isAny (.lst xs) [.tuple] = some false := rfl
theorem is_lLT : isAny (.lst xs) [.list, .tuple] = some true := rfl
theorem n_i (i : Int) : cmpD .isn (.int i) .non = some false := rfl
theorem n_b (b : Bool) : cmpD .isn (.bl b) .non = some false := rfl
theorem b_eqb (a b : Bool) : cmpD .eq (.bl a) (.bl b) = some (a == b) := by cases a <;> cases b <;> rfl
theorem b_neb (a b : Bool) : cmpD .ne (.bl a) (.bl b) = some (a != b) := by cases a <;> cases b <;> rfl
def Jsq (x : D) (s : Sto) : R (Src × List D) := match x with
    | .ref i => (match s[i]? with
      | some (.lst _ xs) => .ok (some (i, .bk false), xs) s
      | _ => .fail)
    | .scr ns => .ok (none, ns.map .int) s
    | d => (match items s d with
      | some xs => .ok (none, xs) s
      | none => .fail)
theorem i_sq (a) : evIt f (.sq a) e s = (f a e s).bind Jsq := rfl
theorem j_tup : Jsq (.tup xs) s = .ok (none, xs) s := rfl
theorem j_lst : Jsq (.lst xs) s = .ok (none, xs) s := rfl
theorem j_scr (ns) : Jsq (.scr ns) s = .ok (none, ns.map .int) s := rfl
def Jzip2 (x y : D) (s : Sto) : R (Src × List D) := match x, y with
    | .tup xs, .tup ys => .ok (none, zipD xs ys) s
    | .lst xs, .lst ys => .ok (none, zipD xs ys) s
    | x, y => (match items s x, items s y with
      | some xs, some ys => .ok (some (0, .all (wit x xs ++ wit y ys)), zipD xs ys) s
      | _, _ => .fail)
def Jzip (b : C) (f : Ev) (e : En) (x : D) (s : Sto) : R (Src × List D) := (f b e s).bind (Jzip2 x)
theorem i_zip (a b) : evIt f (.zip a b) e s = (f a e s).bind (Jzip b f e) := rfl
theorem j_zip (b) : Jzip b f e x s = (f b e s).bind (Jzip2 x) := rfl
theorem j_zipT (ys) : Jzip2 (.tup xs) (.tup ys) s = .ok (none, zipD xs ys) s := rfl
theorem j_zipL (ys) : Jzip2 (.lst xs) (.lst ys) s = .ok (none, zipD xs ys) s := rfl
/-- a comprehension without a condition -/
theorem comp_map {f : Ev} {el : C} {t : T} {rho : En} {n : Nat} {s : Sto} {g : D → D} : ∀ (xs acc : List D) (k : Nat), acc.length + xs.length ≤ lim →
    (∀ x ∈ xs, ∀ s1 : Sto, ∃ e1, asg f t x rho s1 = .ok e1 s1 ∧ f el e1 s1 = .ok (g x) s1 ∧ clean (g x) = true) →
    evComp f s.length el t none rho none n k xs (s ++ [.lst true acc]) = .ok () (s ++ [.lst true (acc ++ xs.map g)])
  | [], acc, k, _, _ => by
    rw [List.map_nil, List.append_nil]
    rfl
  | x :: xs, acc, k, hl, h => by
    obtain ⟨e1, h1, h2, h3⟩ := h x (List.mem_cons_self ..) (s ++ [.lst true acc])
    have hl : acc.length + (xs.length + 1) ≤ lim := hl
    have hp : push (s ++ [.lst true acc]) s.length (g x) = some (s ++ [.lst true (acc ++ [g x])]) := by
      unfold push
      have e0 : (s ++ [SO.lst true acc])[s.length]? = some (SO.lst true acc) := by simp
      rw [e0]
      simp only [h3, Bool.true_and]
      rw [if_pos (decide_eq_true (by omega))]
      simp
    have e2 : evComp f s.length el t none rho none n k (x :: xs) (s ++ [.lst true acc]) = (match push (s ++ [.lst true acc]) s.length (g x) with
        | some s4 => evComp f s.length el t none rho none n (k + 1) xs s4
        | none => .fail) := by
      show (quiet (asg f t x rho (s ++ [.lst true acc]))).bind _ = _
      rw [h1]
      show R.bind (f el e1 (s ++ [.lst true acc])) _ = _
      rw [h2]
      rfl
    rw [e2, hp]
    simp only
    have := comp_map (f := f) (el := el) (t := t) (rho := rho) (n := n) (s := s) (g := g) xs (acc ++ [g x]) (k + 1) (by rw [List.length_append, List.length_singleton]; omega) (fun y hy => h y (List.mem_cons_of_mem _ hy))
    rw [this, List.append_assoc]
    rfl
/-- .. as an expression -/
theorem comp_val {cf : CF} {gl : PySem.Str → Option D} {el : C} {own : List Nat} {t : T} {it : It} {n : Nat} {e : En} {s : Sto} {xs : List D} {g : D → D} (hi : evIt (evE cf gl n) it e s = .ok (none, xs) s) (hl : xs.length ≤ lim)
    (h : ∀ x ∈ xs, ∀ s1 : Sto, ∃ e1, asg (evE cf gl n) t x (wipeE e own) s1 = .ok e1 s1 ∧ evE cf gl n el e1 s1 = .ok (g x) s1 ∧ clean (g x) = true) :
    evE cf gl (n + 1) (.comp false el own t it none) e s = .ok (.lst (xs.map g)) s := by
  rw [e_comp, hi, w_bind, k_m]
  rw [comp_map xs [] 0 (by simpa using hl) h, w_quiet, w_bind, k_m2]
  have e0 : (s ++ [SO.lst true ([] ++ xs.map g)])[s.length]? = some (SO.lst true (xs.map g)) := by simp
  rw [e0, k_m3f]
  simp
theorem getB_map : ∀ bs : List Bool, getB (bs.map D.bl) = some bs
  | [] => rfl
  | b :: bs => by
    show (match getB (List.map D.bl bs) with
      | some l => some (b :: l)
      | none => none) = some (b :: bs)
    rw [getB_map bs]
theorem u_all (bs : List Bool) : biD .all [.lst (bs.map D.bl)] s = .ok (.bl (bs.all id)) s := by
  show (match getB (bs.map D.bl) with
    | some l => R.ok (D.bl (l.all id)) s
    | none => .fail) = _
  rw [getB_map]
theorem all_true {α : Type} (xs : List α) : biD .all [.lst (xs.map fun _ => D.bl true)] s = .ok (.bl true) s := by
  have : (xs.map fun _ => D.bl true) = (xs.map fun _ => true).map D.bl := by rw [List.map_map]; rfl
  rw [this, u_all]
  simp
theorem u_tupleL : biD .tuple [.lst xs] s = .ok (.tup xs) s := rfl
theorem u_tupleT : biD .tuple [.tup xs] s = .ok (.tup xs) s := rfl
theorem u_listL : biD .list [.tup xs] s = mkL false xs s := rfl
theorem m_l (h : xs.length ≤ lim) : mkL false xs s = .ok (.lst xs) s := if_pos h
theorem m_r (h : xs.length ≤ lim) (h2 : cleans xs = true) : mkL true xs s = .ok (.ref s.length) (s ++ [.lst false xs]) := by
  unfold mkL
  rw [if_pos h]
  simp only [if_true]
  rw [if_pos h2]
end
/-! ### the laws' own box of drawn numbers -/
/-- the box at r: m draws so far at the most -/
def Tin (r m : Nat) (s : Sto) : Prop := ∃ a b c : Int, s[r]? = some (.lst false [.int a, .int b, .int c]) ∧ 0 ≤ b ∧ b < 2 ^ 62 ∧ 0 ≤ c ∧ c ≤ m
theorem st_ok {s : Sto} {r : Nat} {xs : List D} {v : D} {n : Int} {p : Nat} (h : s[r]? = some (.lst false xs)) (c : clean v = true) (h1 : place xs.length n = some p) : sto s r n v = some (s.set r (.lst false (xs.set p v))) := by
  unfold sto
  simp only [h, c, h1, if_true]
theorem get_set {s : Sto} {r : Nat} {o u : SO} (h : s[r]? = some u) : (s.set r o)[r]? = some o := List.getElem?_set_self (List.getElem?_eq_some_iff.mp h).1
theorem take_set {s : Sto} {r : Nat} {o : SO} : (s.set r o).take s.length = s.set r o := List.take_of_length_le (by rw [List.length_set]; exact Nat.le_refl _)
theorem u_all2 (a b : Bool) (s : Sto) : biD .all [.lst [.bl a, .bl b]] s = .ok (.bl (a && b)) s := by cases a <;> cases b <;> rfl
theorem w_upi (m : Nat) (i : Int) (s : Sto) : back m (.int i) s = .ok (.int i) (s.take m) := rfl
theorem w_upb (m : Nat) (b : Bool) (s : Sto) : back m (.bl b) s = .ok (.bl b) (s.take m) := rfl
theorem w_upt (m : Nat) (i j : Int) (s : Sto) : back m (.tup [.int i, .int j]) s = .ok (.tup [.int i, .int j]) (s.take m) := rfl
theorem w_upl (m : Nat) (i j : Int) (s : Sto) : back m (.lst [.int i, .int j]) s = .ok (.lst [.int i, .int j]) (s.take m) := rfl
theorem u_len2 (x y : D) (s : Sto) : biD .len [.tup [x, y]] s = .ok (.int 2) s := rfl
theorem u_list2 (x y : D) (s : Sto) : biD .list [.tup [x, y]] s = .ok (.lst [x, y]) s := rfl
theorem k_t2 (x y : D) (s : Sto) : Kt [x, y] s = .ok (.tup [x, y]) s := rfl
theorem k_t3 (x y z : D) (s : Sto) : Kt [x, y, z] s = .ok (.tup [x, y, z]) s := rfl
theorem m_l2 (x y : D) (s : Sto) : mkL false [x, y] s = .ok (.lst [x, y]) s := rfl
theorem m_l1 (x : D) (s : Sto) : mkL false [x] s = .ok (.lst [x]) s := rfl
theorem m_l3 (x y z : D) (s : Sto) : mkL false [x, y, z] s = .ok (.lst [x, y, z]) s := rfl
theorem m_l4 (x y z u : D) (s : Sto) : mkL false [x, y, z, u] s = .ok (.lst [x, y, z, u]) s := rfl
theorem m_l5 (x y z u v : D) (s : Sto) : mkL false [x, y, z, u, v] s = .ok (.lst [x, y, z, u, v]) s := rfl
theorem x_tup0 (x y : D) (s : Sto) : ixD (.tup [x, y]) (.int 0) s = .ok x s := rfl
theorem x_tup1 (x y : D) (s : Sto) : ixD (.tup [x, y]) (.int 1) s = .ok y s := rfl
theorem okMul_1 (i : Int) : okMul i 1 = true := okMul_r (by decide) (by decide)
theorem b_eqt (a b c d : Int) : cmpD .eq (.tup [.int a, .int b]) (.tup [.int c, .int d]) = some (decide (a = c) && decide (b = d)) := by
  show some (PySem.PyData.eqv (.tuple [.int a, .int b]) (.tuple [.int c, .int d])) = _
  congr 1
  show (PySem.PyData.eqv (.int a) (.int c) && (PySem.PyData.eqv (.int b) (.int d) && true)) = _
  rw [Bool.and_true]
  rfl
theorem deep_int (m : Nat) (i : Int) : deep m (.int i) = true := rfl
theorem deep_bl (m : Nat) (b : Bool) : deep m (.bl b) = true := rfl
end Bw

set_option Elab.async false
set_option linter.all false
set_option maxRecDepth 100000
set_option maxHeartbeats 4000000
/-! Bw: what all laws share: the box of draws, the cells, the comparison -/
namespace Bw

def fBox (z : Int) : F := ⟨"_law_box", ["script", "k"], ["script", "k", "bit_so"], [
  (.set (.nm 2) (.ife (.cmp .lt (.var 1) (.bi .len [(.var 0)])) (.ix (.var 0) (.var 1)) (.cst (D.int (0))))),
  (.ret (.lst true [(.bin .mul (.bi .abs [(.var 2)]) (.bi .int [(.cmp .ge (.bi .abs [(.var 2)]) (.bin .pow (.cst (D.int (10))) (.cst (D.int (18)))))])), (.bin .add (.bin .add (.bin .mod (.bi .int [(.var 2)]) (.cst (D.int (2305843009213693951)))) (.bin .mul (.cst (D.int (39373))) (.var 1))) (.cst (D.int z))), (.cst (D.int (0)))]))], 61, 100000⟩
def fTake : F := ⟨"_law_take", ["tin", "below_so"], ["tin", "below_so", "once_so", "wide_so", "twice_so", "drawn"], [
  (.ife (.cmp .gt (.ix (.var 0) (.cst (D.int (0)))) (.cst (D.int (0)))) [(.set (.nm 5) (.bin .mod (.bi .int [(.ix (.var 0) (.cst (D.int (0))))]) (.var 1))), (.set (.sub (.var 0) (.cst (D.int (0)))) (.bin .fdiv (.ix (.var 0) (.cst (D.int (0)))) (.var 1))), (.ret (.var 5))] []),
  (.set (.sub (.var 0) (.cst (D.int (2)))) (.bin .add (.ix (.var 0) (.cst (D.int (2)))) (.cst (D.int (1))))),
  (.set (.nm 2) (.bin .mod (.bi .int [(.bin .mul (.bin .add (.ix (.var 0) (.cst (D.int (1)))) (.bin .mul (.cst (D.int (48271))) (.ix (.var 0) (.cst (D.int (2)))))) (.bin .add (.cst (D.int (39373))) (.ix (.var 0) (.cst (D.int (2))))))]) (.cst (D.int (2147483647))))),
  (.set (.nm 3) (.bin .add (.bin .mod (.bi .int [(.var 2)]) (.cst (D.int (40009)))) (.cst (D.int (7))))),
  (.set (.nm 4) (.bin .mod (.bi .int [(.bin .mul (.bin .add (.bin .add (.var 2) (.ix (.var 0) (.cst (D.int (2))))) (.bin .fdiv (.ix (.var 0) (.cst (D.int (1)))) (.cst (D.int (1000003))))) (.var 3))]) (.cst (D.int (2147483629))))),
  (.ret (.bin .mod (.bi .int [(.bin .fdiv (.bin .mod (.bi .int [(.bin .add (.bin .mul (.var 4) (.cst (D.int (48271)))) (.var 2))]) (.cst (D.int (2147483587)))) (.cst (D.int (64))))]) (.var 1)))], 61, 100000⟩
def fCells : F := ⟨"_law_cells", ["script", "most_so"], ["script", "most_so", "cells_so", "k", "bit_so", "at_so"], [
  (.set (.nm 2) (.or [(.bi .listR [(.sl (.var 0) none (some (.var 1)))]), (.lst true [(.cst (D.int (0)))])])),
  (.for_ (.tup [(.nm 3), (.nm 4)]) (.enu (.sl (.var 0) (some (.var 1)) (some (.cst (D.int (63)))))) [(.set (.nm 5) (.bin .mod (.bi .int [(.var 3)]) (.var 1))), (.set (.sub (.var 2) (.var 5)) (.bin .add (.ix (.var 2) (.var 5)) (.bin .mul (.var 4) (.bin .add (.var 3) (.cst (D.int (2)))))))]),
  (.ret (.var 2))], 61, 100000⟩
def fSame (k : Nat) : F := ⟨"_law_same", ["got", "due"], ["got", "due", "mine", "its"], [
  (.ife (.isi (.var 1) [.list, .tuple]) [(.ife (.or [(.cmp .ne (.isi (.var 0) [.list]) (.isi (.var 1) [.list])), (.cmp .ne (.isi (.var 0) [.tuple]) (.isi (.var 1) [.tuple]))]) [(.ret (.cst (D.bl false)))] []), (.ret (.and [(.cmp .eq (.bi .len [(.var 0)]) (.bi .len [(.var 1)])), (.bi .all [(.comp false (.call k [(.var 2), (.var 3)]) [2, 3] (.tup [(.nm 2), (.nm 3)]) (.zip (.var 0) (.var 1)) none)])]))] []),
  (.ife (.or [(.cmp .isn (.var 1) (.cst D.non)), (.isi (.var 1) [.bool, .str])]) [(.ret (.and [(.cmp .eq (.var 0) (.var 1)), (.cmp .eq (.isi (.var 0) [.bool]) (.isi (.var 1) [.bool])), (.cmp .eq (.cmp .isn (.var 0) (.cst D.non)) (.cmp .isn (.var 1) (.cst D.non)))]))] []),
  (.ret (.and [(.isi (.var 0) [.int]), (.not (.isi (.var 0) [.bool])), (.cmp .eq (.var 0) (.var 1))]))], 61, 100000⟩
theorem exs_app {ex : Ex} : ∀ (A B : List S) (e : En) (s : Sto), exs ex (A ++ B) e s = sq (exs ex A e s) (exs ex B)
  | [], B, e, s => rfl
  | c :: A, B, e, s => by
    show sq (ex c e s) (exs ex (A ++ B)) = sq (sq (ex c e s) (exs ex A)) (exs ex B)
    cases ex c e s with
    | fail => rfl
    | exc k e1 s1 => rfl
    | ok f e1 s1 =>
      cases f with
      | next => exact exs_app A B e1 s1
      | brk => rfl
      | cnt => rfl
      | ret v => rfl

theorem seg_next {ex : Ex} {b : List S} {e e1 : En} {s s1 : Sto} {n : Nat} {r : R D} (m : Nat) (h : exs ex (b.take m) e s = .ok .next e1 s1) (h2 : fin n (exs ex (b.drop m) e1 s1) = r) : fin n (exs ex b e s) = r := by
  have q := exs_app (ex := ex) (b.take m) (b.drop m) e s
  rw [List.take_append_drop, h] at q
  rw [q]
  exact h2
theorem seg_last {ex : Ex} {b : List S} {e e1 : En} {s s1 : Sto} {n : Nat} {v : D} (h : exs ex b e s = .ok (.ret v) e1 s1) : fin n (exs ex b e s) = back n v s1 := by
  rw [h]
  rfl

theorem Tin.mono {r m : Nat} {s s' : Sto} (h : Tin r m s) (e : s'[r]? = s[r]?) : Tin r m s' := by
  obtain ⟨a, b, c, q, r⟩ := h
  exact ⟨a, b, c, by rw [e]; exact q, r⟩
theorem Tin.lt {r m : Nat} {s : Sto} (h : Tin r m s) : r < s.length := by
  obtain ⟨a, b, c, q, _⟩ := h
  exact (List.getElem?_eq_some_iff.mp q).1
theorem b_addl (xs ys : List D) (s : Sto) : binD .add (.lst xs) (.lst ys) s = mkL false (xs ++ ys) s := rfl
theorem b_addL (xs ys : List D) (s : Sto) : binD .addL (.lst xs) (.lst ys) s = mkL true (xs ++ ys) s := rfl
theorem b_addr {k : Nat} {lk : Bool} {xs : List D} (ys : List D) {s : Sto} (h : s[k]? = some (.lst lk xs)) : binD .add (.ref k) (.lst ys) s = mkL false (xs ++ ys) s := by
  show catL false (.ref k) (.lst ys) s = _
  unfold catL
  simp only [lstOf, h]
theorem m_l6 (a b c d e f : D) (s : Sto) : mkL false [a, b, c, d, e, f] s = .ok (.lst [a, b, c, d, e, f]) s := rfl
theorem m_l8 (a b c d e f g h : D) (s : Sto) : mkL false [a, b, c, d, e, f, g, h] s = .ok (.lst [a, b, c, d, e, f, g, h]) s := rfl

/-- plain data of a depth -/
inductive Pl : Nat → D → Prop
  | int (n : Nat) (i : Int) : Pl n (.int i)
  | bl (n : Nat) (b : Bool) : Pl n (.bl b)
  | tup {n : Nat} {xs : List D} : xs.length ≤ lim → (∀ x ∈ xs, Pl n x) → Pl (n + 1) (.tup xs)
  | lst {n : Nat} {xs : List D} : xs.length ≤ lim → (∀ x ∈ xs, Pl n x) → Pl (n + 1) (.lst xs)
theorem zip_self : ∀ xs : List D, zipD xs xs = xs.map fun x => D.tup [x, x]
  | [] => rfl
  | x :: xs => by
    show D.tup [x, x] :: zipD xs xs = D.tup [x, x] :: xs.map fun x => D.tup [x, x]
    rw [zip_self xs]

theorem pn {n : Nat} : ∀ y ∈ ([] : List D), Pl n y := fun y h => by cases h
theorem pc {n : Nat} {x : D} {xs : List D} (h : Pl n x) (k : ∀ y ∈ xs, Pl n y) : ∀ y ∈ x :: xs, Pl n y := fun y hy => by
  rcases List.mem_cons.mp hy with rfl | z
  · exact h
  · exact k y z

theorem p2 {n : Nat} (a b : Int) : Pl (n + 1) (.tup [.int a, .int b]) := .tup (by show 2 ≤ lim; decide) (pc (.int _ _) (pc (.int _ _) pn))

theorem x_app_ok {ev : Ev} {w n : Nat} {a c : C} {e : En} {s s1 s2 : Sto} {i : Nat} {lk : Bool} {xs xs0 : List D} {v : D} (h1 : ev a e s = .ok (.ref i) s1) (h0 : s1[i]? = some (.lst lk xs0)) (h2 : ev c e s1 = .ok v s2) (h3 : s2[i]? = some (.lst false xs)) (h4 : clean v = true) (h5 : xs.length < lim) :
    exS ev w (n + 1) (.app a c) e s = .ok .next e (s2.set i (.lst false (xs ++ [v]))) := by
  show (ev a e s).to e _ = _
  rw [h1, w_to]
  simp only [h0, h2, w_to, h3, h4, Bool.true_and]
  rw [if_pos (decide_eq_true h5)]

section
variable {gl : PySem.Str → Option D} {P : List F} {d : Nat} {s : Sto}

theorem same_ok {k : Nat} (hk : P[k]? = some (fSame k)) : ∀ (n : Nat) (x : D) (s : Sto), Pl n x → callF gl P (d + n + 1) k [x, x] s = .ok (.bl true) s := by
  intro n
  induction n with
  | zero =>
    intro x s h
    rw [callF_at hk rfl]
    cases h with
    | int _ i => simp only [fSame, w_bind, w_bindx, w_to, w_tox, w_quiet, w_sq, w_sqr, w_sqx, w_lp, w_lpr, w_vw, w_bw, w_fin, w_finx, k_b, k_c2, k_q2, w_or, k_c, k_ht, k_hf, k_h2, k_h, k_at, k_af, k_a, k_ot, k_of, k_o, k_n, k_T2, k_T, k_it, k_if, k_g, k_s, k_x, k_l3, k_l2, k_l, k_e2, k_e, k_as, k_u3, k_u2, k_u, k_set2, k_set, k_ret, k_ift, k_iff, k_wt, k_wf, e_cst, e_var, e_bin, e_neg, e_cmp, e_chain, e_and, e_or, e_not, e_ife, e_call, e_bi, e_isi, e_tup, e_lst, e_ix, e_sl, es_nil, es_cons, e_T, eA_one, eA_cons, eO_one, eO_cons, tr_bl, tr_int, a_nm, a_tup, a_sub, as_nil, as_cons, x_nil, x_cons, x_set, x_ife, x_ret, x_rais, List.getElem?_cons_zero, List.getElem?_cons_succ, List.length_cons, List.length_nil, List.map_cons, List.map_nil, List.cons_append, List.nil_append, Nat.reduceSub, Nat.reduceAdd, List.replicate_succ, List.replicate_zero, List.set_cons_zero, List.set_cons_succ, Nat.zero_add, Nat.sub_self, b_add, b_sub, b_ge, b_gt, b_le, b_lt, b_eq, b_ne, b_mul, b_fdiv, b_mod, u_abs, u_inti, u_intb, u_gcd, Bool.not_true, Bool.not_false, is_iI, is_iB, is_iL, is_iT, is_iLT, is_iBS, is_bI, is_bB, is_bLT, is_bBS, is_tL, is_tT, is_tLT, is_lL, is_lT, is_lLT, n_i, n_b, b_eqb, b_neb, i_sq, j_tup, j_lst, j_scr, i_zip, j_zip, j_zipT, j_zipL, u_tupleL, u_tupleT, deep_int, deep_bl, List.take_length, u_all2, w_upi, w_upb, w_upt, w_upl, u_len2, u_list2, k_t2, k_t3, m_l1, m_l2, m_l3, m_l4, m_l5, x_tup0, x_tup1, okMul_1, b_eqt, decide_true, decide_false, Bool.true_and, Bool.false_and]
    | bl _ b => cases b <;> simp only [fSame, w_bind, w_bindx, w_to, w_tox, w_quiet, w_sq, w_sqr, w_sqx, w_lp, w_lpr, w_vw, w_bw, w_fin, w_finx, k_b, k_c2, k_q2, w_or, k_c, k_ht, k_hf, k_h2, k_h, k_at, k_af, k_a, k_ot, k_of, k_o, k_n, k_T2, k_T, k_it, k_if, k_g, k_s, k_x, k_l3, k_l2, k_l, k_e2, k_e, k_as, k_u3, k_u2, k_u, k_set2, k_set, k_ret, k_ift, k_iff, k_wt, k_wf, e_cst, e_var, e_bin, e_neg, e_cmp, e_chain, e_and, e_or, e_not, e_ife, e_call, e_bi, e_isi, e_tup, e_lst, e_ix, e_sl, es_nil, es_cons, e_T, eA_one, eA_cons, eO_one, eO_cons, tr_bl, tr_int, a_nm, a_tup, a_sub, as_nil, as_cons, x_nil, x_cons, x_set, x_ife, x_ret, x_rais, List.getElem?_cons_zero, List.getElem?_cons_succ, List.length_cons, List.length_nil, List.map_cons, List.map_nil, List.cons_append, List.nil_append, Nat.reduceSub, Nat.reduceAdd, List.replicate_succ, List.replicate_zero, List.set_cons_zero, List.set_cons_succ, Nat.zero_add, Nat.sub_self, b_add, b_sub, b_ge, b_gt, b_le, b_lt, b_eq, b_ne, b_mul, b_fdiv, b_mod, u_abs, u_inti, u_intb, u_gcd, Bool.not_true, Bool.not_false, is_iI, is_iB, is_iL, is_iT, is_iLT, is_iBS, is_bI, is_bB, is_bLT, is_bBS, is_tL, is_tT, is_tLT, is_lL, is_lT, is_lLT, n_i, n_b, b_eqb, b_neb, i_sq, j_tup, j_lst, j_scr, i_zip, j_zip, j_zipT, j_zipL, u_tupleL, u_tupleT, deep_int, deep_bl, List.take_length, u_all2, w_upi, w_upb, w_upt, w_upl, u_len2, u_list2, k_t2, k_t3, m_l1, m_l2, m_l3, m_l4, m_l5, x_tup0, x_tup1, okMul_1, b_eqt, decide_true, decide_false, Bool.true_and, Bool.false_and, beq_self_eq_true]
  | succ n ih =>
    intro x s h
    rw [callF_at hk rfl]
    cases h with
    | int _ i => simp only [fSame, w_bind, w_bindx, w_to, w_tox, w_quiet, w_sq, w_sqr, w_sqx, w_lp, w_lpr, w_vw, w_bw, w_fin, w_finx, k_b, k_c2, k_q2, w_or, k_c, k_ht, k_hf, k_h2, k_h, k_at, k_af, k_a, k_ot, k_of, k_o, k_n, k_T2, k_T, k_it, k_if, k_g, k_s, k_x, k_l3, k_l2, k_l, k_e2, k_e, k_as, k_u3, k_u2, k_u, k_set2, k_set, k_ret, k_ift, k_iff, k_wt, k_wf, e_cst, e_var, e_bin, e_neg, e_cmp, e_chain, e_and, e_or, e_not, e_ife, e_call, e_bi, e_isi, e_tup, e_lst, e_ix, e_sl, es_nil, es_cons, e_T, eA_one, eA_cons, eO_one, eO_cons, tr_bl, tr_int, a_nm, a_tup, a_sub, as_nil, as_cons, x_nil, x_cons, x_set, x_ife, x_ret, x_rais, List.getElem?_cons_zero, List.getElem?_cons_succ, List.length_cons, List.length_nil, List.map_cons, List.map_nil, List.cons_append, List.nil_append, Nat.reduceSub, Nat.reduceAdd, List.replicate_succ, List.replicate_zero, List.set_cons_zero, List.set_cons_succ, Nat.zero_add, Nat.sub_self, b_add, b_sub, b_ge, b_gt, b_le, b_lt, b_eq, b_ne, b_mul, b_fdiv, b_mod, u_abs, u_inti, u_intb, u_gcd, Bool.not_true, Bool.not_false, is_iI, is_iB, is_iL, is_iT, is_iLT, is_iBS, is_bI, is_bB, is_bLT, is_bBS, is_tL, is_tT, is_tLT, is_lL, is_lT, is_lLT, n_i, n_b, b_eqb, b_neb, i_sq, j_tup, j_lst, j_scr, i_zip, j_zip, j_zipT, j_zipL, u_tupleL, u_tupleT, deep_int, deep_bl, List.take_length, u_all2, w_upi, w_upb, w_upt, w_upl, u_len2, u_list2, k_t2, k_t3, m_l1, m_l2, m_l3, m_l4, m_l5, x_tup0, x_tup1, okMul_1, b_eqt, decide_true, decide_false, Bool.true_and, Bool.false_and]
    | bl _ b => cases b <;> simp only [fSame, w_bind, w_bindx, w_to, w_tox, w_quiet, w_sq, w_sqr, w_sqx, w_lp, w_lpr, w_vw, w_bw, w_fin, w_finx, k_b, k_c2, k_q2, w_or, k_c, k_ht, k_hf, k_h2, k_h, k_at, k_af, k_a, k_ot, k_of, k_o, k_n, k_T2, k_T, k_it, k_if, k_g, k_s, k_x, k_l3, k_l2, k_l, k_e2, k_e, k_as, k_u3, k_u2, k_u, k_set2, k_set, k_ret, k_ift, k_iff, k_wt, k_wf, e_cst, e_var, e_bin, e_neg, e_cmp, e_chain, e_and, e_or, e_not, e_ife, e_call, e_bi, e_isi, e_tup, e_lst, e_ix, e_sl, es_nil, es_cons, e_T, eA_one, eA_cons, eO_one, eO_cons, tr_bl, tr_int, a_nm, a_tup, a_sub, as_nil, as_cons, x_nil, x_cons, x_set, x_ife, x_ret, x_rais, List.getElem?_cons_zero, List.getElem?_cons_succ, List.length_cons, List.length_nil, List.map_cons, List.map_nil, List.cons_append, List.nil_append, Nat.reduceSub, Nat.reduceAdd, List.replicate_succ, List.replicate_zero, List.set_cons_zero, List.set_cons_succ, Nat.zero_add, Nat.sub_self, b_add, b_sub, b_ge, b_gt, b_le, b_lt, b_eq, b_ne, b_mul, b_fdiv, b_mod, u_abs, u_inti, u_intb, u_gcd, Bool.not_true, Bool.not_false, is_iI, is_iB, is_iL, is_iT, is_iLT, is_iBS, is_bI, is_bB, is_bLT, is_bBS, is_tL, is_tT, is_tLT, is_lL, is_lT, is_lLT, n_i, n_b, b_eqb, b_neb, i_sq, j_tup, j_lst, j_scr, i_zip, j_zip, j_zipT, j_zipL, u_tupleL, u_tupleT, deep_int, deep_bl, List.take_length, u_all2, w_upi, w_upb, w_upt, w_upl, u_len2, u_list2, k_t2, k_t3, m_l1, m_l2, m_l3, m_l4, m_l5, x_tup0, x_tup1, okMul_1, b_eqt, decide_true, decide_false, Bool.true_and, Bool.false_and, beq_self_eq_true]
    | @tup _ xs hl hx =>
      have h := comp_val (cf := callF gl P (d + (n + 1))) (gl := gl) (el := .call k [.var 2, .var 3]) (own := [2, 3]) (t := .tup [.nm 2, .nm 3]) (it := .zip (.var 0) (.var 1)) (n := 58) (e := [some (.tup xs), some (.tup xs), none, none]) (s := s) (xs := zipD xs xs) (g := fun _ => .bl true) (by simp only [w_bind, w_bindx, w_to, w_tox, w_quiet, w_sq, w_sqr, w_sqx, w_lp, w_lpr, w_vw, w_bw, w_fin, w_finx, k_b, k_c2, k_q2, w_or, k_c, k_ht, k_hf, k_h2, k_h, k_at, k_af, k_a, k_ot, k_of, k_o, k_n, k_T2, k_T, k_it, k_if, k_g, k_s, k_x, k_l3, k_l2, k_l, k_e2, k_e, k_as, k_u3, k_u2, k_u, k_set2, k_set, k_ret, k_ift, k_iff, k_wt, k_wf, e_cst, e_var, e_bin, e_neg, e_cmp, e_chain, e_and, e_or, e_not, e_ife, e_call, e_bi, e_isi, e_tup, e_lst, e_ix, e_sl, es_nil, es_cons, e_T, eA_one, eA_cons, eO_one, eO_cons, tr_bl, tr_int, a_nm, a_tup, a_sub, as_nil, as_cons, x_nil, x_cons, x_set, x_ife, x_ret, x_rais, List.getElem?_cons_zero, List.getElem?_cons_succ, List.length_cons, List.length_nil, List.map_cons, List.map_nil, List.cons_append, List.nil_append, Nat.reduceSub, Nat.reduceAdd, List.replicate_succ, List.replicate_zero, List.set_cons_zero, List.set_cons_succ, Nat.zero_add, Nat.sub_self, b_add, b_sub, b_ge, b_gt, b_le, b_lt, b_eq, b_ne, b_mul, b_fdiv, b_mod, u_abs, u_inti, u_intb, u_gcd, Bool.not_true, Bool.not_false, is_iI, is_iB, is_iL, is_iT, is_iLT, is_iBS, is_bI, is_bB, is_bLT, is_bBS, is_tL, is_tT, is_tLT, is_lL, is_lT, is_lLT, n_i, n_b, b_eqb, b_neb, i_sq, j_tup, j_lst, j_scr, i_zip, j_zip, j_zipT, j_zipL, u_tupleL, u_tupleT, deep_int, deep_bl, List.take_length, u_all2, w_upi, w_upb, w_upt, w_upl, u_len2, u_list2, k_t2, k_t3, m_l1, m_l2, m_l3, m_l4, m_l5, x_tup0, x_tup1, okMul_1, b_eqt, decide_true, decide_false, Bool.true_and, Bool.false_and]) (by rw [zip_self, List.length_map]; exact hl) (fun z hz s1 => by
        rw [zip_self] at hz
        obtain ⟨y, hy, rfl⟩ := List.mem_map.mp hz
        refine ⟨[some (.tup xs), some (.tup xs), some y, some y], ?_, ?_, rfl⟩
        · simp only [wipeE, w_bind, w_bindx, w_to, w_tox, w_quiet, w_sq, w_sqr, w_sqx, w_lp, w_lpr, w_vw, w_bw, w_fin, w_finx, k_b, k_c2, k_q2, w_or, k_c, k_ht, k_hf, k_h2, k_h, k_at, k_af, k_a, k_ot, k_of, k_o, k_n, k_T2, k_T, k_it, k_if, k_g, k_s, k_x, k_l3, k_l2, k_l, k_e2, k_e, k_as, k_u3, k_u2, k_u, k_set2, k_set, k_ret, k_ift, k_iff, k_wt, k_wf, e_cst, e_var, e_bin, e_neg, e_cmp, e_chain, e_and, e_or, e_not, e_ife, e_call, e_bi, e_isi, e_tup, e_lst, e_ix, e_sl, es_nil, es_cons, e_T, eA_one, eA_cons, eO_one, eO_cons, tr_bl, tr_int, a_nm, a_tup, a_sub, as_nil, as_cons, x_nil, x_cons, x_set, x_ife, x_ret, x_rais, List.getElem?_cons_zero, List.getElem?_cons_succ, List.length_cons, List.length_nil, List.map_cons, List.map_nil, List.cons_append, List.nil_append, Nat.reduceSub, Nat.reduceAdd, List.replicate_succ, List.replicate_zero, List.set_cons_zero, List.set_cons_succ, Nat.zero_add, Nat.sub_self, b_add, b_sub, b_ge, b_gt, b_le, b_lt, b_eq, b_ne, b_mul, b_fdiv, b_mod, u_abs, u_inti, u_intb, u_gcd, Bool.not_true, Bool.not_false, is_iI, is_iB, is_iL, is_iT, is_iLT, is_iBS, is_bI, is_bB, is_bLT, is_bBS, is_tL, is_tT, is_tLT, is_lL, is_lT, is_lLT, n_i, n_b, b_eqb, b_neb, i_sq, j_tup, j_lst, j_scr, i_zip, j_zip, j_zipT, j_zipL, u_tupleL, u_tupleT, deep_int, deep_bl, List.take_length, u_all2, w_upi, w_upb, w_upt, w_upl, u_len2, u_list2, k_t2, k_t3, m_l1, m_l2, m_l3, m_l4, m_l5, x_tup0, x_tup1, okMul_1, b_eqt, decide_true, decide_false, Bool.true_and, Bool.false_and]
        · simp only [w_bind, w_bindx, w_to, w_tox, w_quiet, w_sq, w_sqr, w_sqx, w_lp, w_lpr, w_vw, w_bw, w_fin, w_finx, k_b, k_c2, k_q2, w_or, k_c, k_ht, k_hf, k_h2, k_h, k_at, k_af, k_a, k_ot, k_of, k_o, k_n, k_T2, k_T, k_it, k_if, k_g, k_s, k_x, k_l3, k_l2, k_l, k_e2, k_e, k_as, k_u3, k_u2, k_u, k_set2, k_set, k_ret, k_ift, k_iff, k_wt, k_wf, e_cst, e_var, e_bin, e_neg, e_cmp, e_chain, e_and, e_or, e_not, e_ife, e_call, e_bi, e_isi, e_tup, e_lst, e_ix, e_sl, es_nil, es_cons, e_T, eA_one, eA_cons, eO_one, eO_cons, tr_bl, tr_int, a_nm, a_tup, a_sub, as_nil, as_cons, x_nil, x_cons, x_set, x_ife, x_ret, x_rais, List.getElem?_cons_zero, List.getElem?_cons_succ, List.length_cons, List.length_nil, List.map_cons, List.map_nil, List.cons_append, List.nil_append, Nat.reduceSub, Nat.reduceAdd, List.replicate_succ, List.replicate_zero, List.set_cons_zero, List.set_cons_succ, Nat.zero_add, Nat.sub_self, b_add, b_sub, b_ge, b_gt, b_le, b_lt, b_eq, b_ne, b_mul, b_fdiv, b_mod, u_abs, u_inti, u_intb, u_gcd, Bool.not_true, Bool.not_false, is_iI, is_iB, is_iL, is_iT, is_iLT, is_iBS, is_bI, is_bB, is_bLT, is_bBS, is_tL, is_tT, is_tLT, is_lL, is_lT, is_lLT, n_i, n_b, b_eqb, b_neb, i_sq, j_tup, j_lst, j_scr, i_zip, j_zip, j_zipT, j_zipL, u_tupleL, u_tupleT, deep_int, deep_bl, List.take_length, u_all2, w_upi, w_upb, w_upt, w_upl, u_len2, u_list2, k_t2, k_t3, m_l1, m_l2, m_l3, m_l4, m_l5, x_tup0, x_tup1, okMul_1, b_eqt, decide_true, decide_false, Bool.true_and, Bool.false_and]
          exact ih y s1 (hx y hy))
      simp only [Nat.reduceAdd] at h
      simp only [fSame, w_bind, w_bindx, w_to, w_tox, w_quiet, w_sq, w_sqr, w_sqx, w_lp, w_lpr, w_vw, w_bw, w_fin, w_finx, k_b, k_c2, k_q2, w_or, k_c, k_ht, k_hf, k_h2, k_h, k_at, k_af, k_a, k_ot, k_of, k_o, k_n, k_T2, k_T, k_it, k_if, k_g, k_s, k_x, k_l3, k_l2, k_l, k_e2, k_e, k_as, k_u3, k_u2, k_u, k_set2, k_set, k_ret, k_ift, k_iff, k_wt, k_wf, e_cst, e_var, e_bin, e_neg, e_cmp, e_chain, e_and, e_or, e_not, e_ife, e_call, e_bi, e_isi, e_tup, e_lst, e_ix, e_sl, es_nil, es_cons, e_T, eA_one, eA_cons, eO_one, eO_cons, tr_bl, tr_int, a_nm, a_tup, a_sub, as_nil, as_cons, x_nil, x_cons, x_set, x_ife, x_ret, x_rais, List.getElem?_cons_zero, List.getElem?_cons_succ, List.length_cons, List.length_nil, List.map_cons, List.map_nil, List.cons_append, List.nil_append, Nat.reduceSub, Nat.reduceAdd, List.replicate_succ, List.replicate_zero, List.set_cons_zero, List.set_cons_succ, Nat.zero_add, Nat.sub_self, b_add, b_sub, b_ge, b_gt, b_le, b_lt, b_eq, b_ne, b_mul, b_fdiv, b_mod, u_abs, u_inti, u_intb, u_gcd, Bool.not_true, Bool.not_false, is_iI, is_iB, is_iL, is_iT, is_iLT, is_iBS, is_bI, is_bB, is_bLT, is_bBS, is_tL, is_tT, is_tLT, is_lL, is_lT, is_lLT, n_i, n_b, b_eqb, b_neb, i_sq, j_tup, j_lst, j_scr, i_zip, j_zip, j_zipT, j_zipL, u_tupleL, u_tupleT, deep_int, deep_bl, List.take_length, u_all2, w_upi, w_upb, w_upt, w_upl, u_len2, u_list2, k_t2, k_t3, m_l1, m_l2, m_l3, m_l4, m_l5, x_tup0, x_tup1, okMul_1, b_eqt, decide_true, decide_false, Bool.true_and, Bool.false_and, h, u_lenT, bne_self_eq_false, all_true]
    | @lst _ xs hl hx =>
      have h := comp_val (cf := callF gl P (d + (n + 1))) (gl := gl) (el := .call k [.var 2, .var 3]) (own := [2, 3]) (t := .tup [.nm 2, .nm 3]) (it := .zip (.var 0) (.var 1)) (n := 58) (e := [some (.lst xs), some (.lst xs), none, none]) (s := s) (xs := zipD xs xs) (g := fun _ => .bl true) (by simp only [w_bind, w_bindx, w_to, w_tox, w_quiet, w_sq, w_sqr, w_sqx, w_lp, w_lpr, w_vw, w_bw, w_fin, w_finx, k_b, k_c2, k_q2, w_or, k_c, k_ht, k_hf, k_h2, k_h, k_at, k_af, k_a, k_ot, k_of, k_o, k_n, k_T2, k_T, k_it, k_if, k_g, k_s, k_x, k_l3, k_l2, k_l, k_e2, k_e, k_as, k_u3, k_u2, k_u, k_set2, k_set, k_ret, k_ift, k_iff, k_wt, k_wf, e_cst, e_var, e_bin, e_neg, e_cmp, e_chain, e_and, e_or, e_not, e_ife, e_call, e_bi, e_isi, e_tup, e_lst, e_ix, e_sl, es_nil, es_cons, e_T, eA_one, eA_cons, eO_one, eO_cons, tr_bl, tr_int, a_nm, a_tup, a_sub, as_nil, as_cons, x_nil, x_cons, x_set, x_ife, x_ret, x_rais, List.getElem?_cons_zero, List.getElem?_cons_succ, List.length_cons, List.length_nil, List.map_cons, List.map_nil, List.cons_append, List.nil_append, Nat.reduceSub, Nat.reduceAdd, List.replicate_succ, List.replicate_zero, List.set_cons_zero, List.set_cons_succ, Nat.zero_add, Nat.sub_self, b_add, b_sub, b_ge, b_gt, b_le, b_lt, b_eq, b_ne, b_mul, b_fdiv, b_mod, u_abs, u_inti, u_intb, u_gcd, Bool.not_true, Bool.not_false, is_iI, is_iB, is_iL, is_iT, is_iLT, is_iBS, is_bI, is_bB, is_bLT, is_bBS, is_tL, is_tT, is_tLT, is_lL, is_lT, is_lLT, n_i, n_b, b_eqb, b_neb, i_sq, j_tup, j_lst, j_scr, i_zip, j_zip, j_zipT, j_zipL, u_tupleL, u_tupleT, deep_int, deep_bl, List.take_length, u_all2, w_upi, w_upb, w_upt, w_upl, u_len2, u_list2, k_t2, k_t3, m_l1, m_l2, m_l3, m_l4, m_l5, x_tup0, x_tup1, okMul_1, b_eqt, decide_true, decide_false, Bool.true_and, Bool.false_and]) (by rw [zip_self, List.length_map]; exact hl) (fun z hz s1 => by
        rw [zip_self] at hz
        obtain ⟨y, hy, rfl⟩ := List.mem_map.mp hz
        refine ⟨[some (.lst xs), some (.lst xs), some y, some y], ?_, ?_, rfl⟩
        · simp only [wipeE, w_bind, w_bindx, w_to, w_tox, w_quiet, w_sq, w_sqr, w_sqx, w_lp, w_lpr, w_vw, w_bw, w_fin, w_finx, k_b, k_c2, k_q2, w_or, k_c, k_ht, k_hf, k_h2, k_h, k_at, k_af, k_a, k_ot, k_of, k_o, k_n, k_T2, k_T, k_it, k_if, k_g, k_s, k_x, k_l3, k_l2, k_l, k_e2, k_e, k_as, k_u3, k_u2, k_u, k_set2, k_set, k_ret, k_ift, k_iff, k_wt, k_wf, e_cst, e_var, e_bin, e_neg, e_cmp, e_chain, e_and, e_or, e_not, e_ife, e_call, e_bi, e_isi, e_tup, e_lst, e_ix, e_sl, es_nil, es_cons, e_T, eA_one, eA_cons, eO_one, eO_cons, tr_bl, tr_int, a_nm, a_tup, a_sub, as_nil, as_cons, x_nil, x_cons, x_set, x_ife, x_ret, x_rais, List.getElem?_cons_zero, List.getElem?_cons_succ, List.length_cons, List.length_nil, List.map_cons, List.map_nil, List.cons_append, List.nil_append, Nat.reduceSub, Nat.reduceAdd, List.replicate_succ, List.replicate_zero, List.set_cons_zero, List.set_cons_succ, Nat.zero_add, Nat.sub_self, b_add, b_sub, b_ge, b_gt, b_le, b_lt, b_eq, b_ne, b_mul, b_fdiv, b_mod, u_abs, u_inti, u_intb, u_gcd, Bool.not_true, Bool.not_false, is_iI, is_iB, is_iL, is_iT, is_iLT, is_iBS, is_bI, is_bB, is_bLT, is_bBS, is_tL, is_tT, is_tLT, is_lL, is_lT, is_lLT, n_i, n_b, b_eqb, b_neb, i_sq, j_tup, j_lst, j_scr, i_zip, j_zip, j_zipT, j_zipL, u_tupleL, u_tupleT, deep_int, deep_bl, List.take_length, u_all2, w_upi, w_upb, w_upt, w_upl, u_len2, u_list2, k_t2, k_t3, m_l1, m_l2, m_l3, m_l4, m_l5, x_tup0, x_tup1, okMul_1, b_eqt, decide_true, decide_false, Bool.true_and, Bool.false_and]
        · simp only [w_bind, w_bindx, w_to, w_tox, w_quiet, w_sq, w_sqr, w_sqx, w_lp, w_lpr, w_vw, w_bw, w_fin, w_finx, k_b, k_c2, k_q2, w_or, k_c, k_ht, k_hf, k_h2, k_h, k_at, k_af, k_a, k_ot, k_of, k_o, k_n, k_T2, k_T, k_it, k_if, k_g, k_s, k_x, k_l3, k_l2, k_l, k_e2, k_e, k_as, k_u3, k_u2, k_u, k_set2, k_set, k_ret, k_ift, k_iff, k_wt, k_wf, e_cst, e_var, e_bin, e_neg, e_cmp, e_chain, e_and, e_or, e_not, e_ife, e_call, e_bi, e_isi, e_tup, e_lst, e_ix, e_sl, es_nil, es_cons, e_T, eA_one, eA_cons, eO_one, eO_cons, tr_bl, tr_int, a_nm, a_tup, a_sub, as_nil, as_cons, x_nil, x_cons, x_set, x_ife, x_ret, x_rais, List.getElem?_cons_zero, List.getElem?_cons_succ, List.length_cons, List.length_nil, List.map_cons, List.map_nil, List.cons_append, List.nil_append, Nat.reduceSub, Nat.reduceAdd, List.replicate_succ, List.replicate_zero, List.set_cons_zero, List.set_cons_succ, Nat.zero_add, Nat.sub_self, b_add, b_sub, b_ge, b_gt, b_le, b_lt, b_eq, b_ne, b_mul, b_fdiv, b_mod, u_abs, u_inti, u_intb, u_gcd, Bool.not_true, Bool.not_false, is_iI, is_iB, is_iL, is_iT, is_iLT, is_iBS, is_bI, is_bB, is_bLT, is_bBS, is_tL, is_tT, is_tLT, is_lL, is_lT, is_lLT, n_i, n_b, b_eqb, b_neb, i_sq, j_tup, j_lst, j_scr, i_zip, j_zip, j_zipT, j_zipL, u_tupleL, u_tupleT, deep_int, deep_bl, List.take_length, u_all2, w_upi, w_upb, w_upt, w_upl, u_len2, u_list2, k_t2, k_t3, m_l1, m_l2, m_l3, m_l4, m_l5, x_tup0, x_tup1, okMul_1, b_eqt, decide_true, decide_false, Bool.true_and, Bool.false_and]
          exact ih y s1 (hx y hy))
      simp only [Nat.reduceAdd] at h
      simp only [fSame, w_bind, w_bindx, w_to, w_tox, w_quiet, w_sq, w_sqr, w_sqx, w_lp, w_lpr, w_vw, w_bw, w_fin, w_finx, k_b, k_c2, k_q2, w_or, k_c, k_ht, k_hf, k_h2, k_h, k_at, k_af, k_a, k_ot, k_of, k_o, k_n, k_T2, k_T, k_it, k_if, k_g, k_s, k_x, k_l3, k_l2, k_l, k_e2, k_e, k_as, k_u3, k_u2, k_u, k_set2, k_set, k_ret, k_ift, k_iff, k_wt, k_wf, e_cst, e_var, e_bin, e_neg, e_cmp, e_chain, e_and, e_or, e_not, e_ife, e_call, e_bi, e_isi, e_tup, e_lst, e_ix, e_sl, es_nil, es_cons, e_T, eA_one, eA_cons, eO_one, eO_cons, tr_bl, tr_int, a_nm, a_tup, a_sub, as_nil, as_cons, x_nil, x_cons, x_set, x_ife, x_ret, x_rais, List.getElem?_cons_zero, List.getElem?_cons_succ, List.length_cons, List.length_nil, List.map_cons, List.map_nil, List.cons_append, List.nil_append, Nat.reduceSub, Nat.reduceAdd, List.replicate_succ, List.replicate_zero, List.set_cons_zero, List.set_cons_succ, Nat.zero_add, Nat.sub_self, b_add, b_sub, b_ge, b_gt, b_le, b_lt, b_eq, b_ne, b_mul, b_fdiv, b_mod, u_abs, u_inti, u_intb, u_gcd, Bool.not_true, Bool.not_false, is_iI, is_iB, is_iL, is_iT, is_iLT, is_iBS, is_bI, is_bB, is_bLT, is_bBS, is_tL, is_tT, is_tLT, is_lL, is_lT, is_lLT, n_i, n_b, b_eqb, b_neb, i_sq, j_tup, j_lst, j_scr, i_zip, j_zip, j_zipT, j_zipL, u_tupleL, u_tupleT, deep_int, deep_bl, List.take_length, u_all2, w_upi, w_upb, w_upt, w_upl, u_len2, u_list2, k_t2, k_t3, m_l1, m_l2, m_l3, m_l4, m_l5, x_tup0, x_tup1, okMul_1, b_eqt, decide_true, decide_false, Bool.true_and, Bool.false_and, h, u_lenL, bne_self_eq_false, all_true]

theorem take_ok {j r m : Nat} {n : Int} (hj : P[j]? = some fTake) (h : Tin r m s) (hn : 0 < n) (hn2 : n < 1000000) (hm : m < 1000000) : ∃ (k : Int) (s' : Sto), callF gl P (d + 1) j [.ref r, .int n] s = .ok (.int k) s' ∧ 0 ≤ k ∧ k < n ∧ Tin r (m + 1) s' ∧ s'.length = s.length ∧ ∀ q, q ≠ r → s'[q]? = s[q]? := by
  obtain ⟨x, y, z, hs, y0, y1, z0, z1⟩ := h
  have hx0 : ixD (.ref r) (.int 0) s = .ok (.int x) s := ix_ref (p := 0) _ _ _ hs rfl rfl
  by_cases hx : 0 < x
  · have st := st_ok (n := 0) (p := 0) (v := .int (x / n)) hs rfl rfl
    have e1 : decide (0 < x) = true := decide_eq_true hx
    have m1 : okDiv n = true := okDiv_by hn (by omega)
    refine ⟨x % n, s.set r (.lst false [.int (x / n), .int y, .int z]), ?_, Int.emod_nonneg _ (by omega), Int.emod_lt_of_pos _ hn, ⟨_, y, z, get_set hs, y0, y1, z0, by omega⟩, List.length_set, fun q hq => List.getElem?_set_ne (fun e => hq e.symm)⟩
    rw [callF_at hj rfl]
    simp only [fTake, w_bind, w_bindx, w_to, w_tox, w_quiet, w_sq, w_sqr, w_sqx, w_lp, w_lpr, w_vw, w_bw, w_fin, w_finx, k_b, k_c2, k_q2, w_or, k_c, k_ht, k_hf, k_h2, k_h, k_at, k_af, k_a, k_ot, k_of, k_o, k_n, k_T2, k_T, k_it, k_if, k_g, k_s, k_x, k_l3, k_l2, k_l, k_e2, k_e, k_as, k_u3, k_u2, k_u, k_set2, k_set, k_ret, k_ift, k_iff, k_wt, k_wf, e_cst, e_var, e_bin, e_neg, e_cmp, e_chain, e_and, e_or, e_not, e_ife, e_call, e_bi, e_isi, e_tup, e_lst, e_ix, e_sl, es_nil, es_cons, e_T, eA_one, eA_cons, eO_one, eO_cons, tr_bl, tr_int, a_nm, a_tup, a_sub, as_nil, as_cons, x_nil, x_cons, x_set, x_ife, x_ret, x_rais, List.getElem?_cons_zero, List.getElem?_cons_succ, List.length_cons, List.length_nil, List.map_cons, List.map_nil, List.cons_append, List.nil_append, Nat.reduceSub, Nat.reduceAdd, List.replicate_succ, List.replicate_zero, List.set_cons_zero, List.set_cons_succ, Nat.zero_add, Nat.sub_self, b_add, b_sub, b_ge, b_gt, b_le, b_lt, b_eq, b_ne, b_mul, b_fdiv, b_mod, u_abs, u_inti, u_intb, u_gcd, Bool.not_true, Bool.not_false, is_iI, is_iB, is_iL, is_iT, is_iLT, is_iBS, is_bI, is_bB, is_bLT, is_bBS, is_tL, is_tT, is_tLT, is_lL, is_lT, is_lLT, n_i, n_b, b_eqb, b_neb, i_sq, j_tup, j_lst, j_scr, i_zip, j_zip, j_zipT, j_zipL, u_tupleL, u_tupleT, deep_int, deep_bl, List.take_length, u_all2, w_upi, w_upb, w_upt, w_upl, u_len2, u_list2, k_t2, k_t3, m_l1, m_l2, m_l3, m_l4, m_l5, x_tup0, x_tup1, okMul_1, b_eqt, decide_true, decide_false, Bool.true_and, Bool.false_and, hx0, e1, hn, m1, st, take_set]
  · have e1 : decide (0 < x) = false := decide_eq_false hx
    have hx2 : ixD (.ref r) (.int 2) s = .ok (.int z) s := ix_ref (p := 2) _ _ _ hs rfl rfl
    have st := st_ok (n := 2) (p := 2) (v := .int (z + 1)) hs rfl rfl
    obtain ⟨s', hs'⟩ : ∃ s', s' = s.set r (.lst false [.int x, .int y, .int (z + 1)]) := ⟨_, rfl⟩
    have st : sto s r 2 (.int (z + 1)) = some s' := by rw [hs']; exact st
    have g' : s'[r]? = some (.lst false [.int x, .int y, .int (z + 1)]) := by rw [hs']; exact get_set hs
    have hx1' : ixD (.ref r) (.int 1) s' = .ok (.int y) s' := ix_ref (p := 1) _ _ _ g' rfl rfl
    have hx2' : ixD (.ref r) (.int 2) s' = .ok (.int (z + 1)) s' := ix_ref (p := 2) _ _ _ g' rfl rfl
    have l' : s'.length = s.length := by rw [hs']; exact List.length_set
    have tk : s'.take s.length = s' := by rw [← l']; exact List.take_length
    have d1 : okDiv 1000003 = true := okDiv_by (by decide) (by omega)
    have d2 : okDiv 64 = true := okDiv_by (by decide) (by omega)
    have o1 : okMul 48271 (z + 1) = true := okMul_l (by decide) (by decide)
    have o2 : ∀ i, okMul i (39373 + (z + 1)) = true := fun i => okMul_r (by omega) (by omega)
    have o3 : ∀ i j : Int, okMul i (j % 40009 + 7) = true := fun i j => okMul_r (by omega) (by omega)
    have o4 : ∀ i, okMul i 48271 = true := fun i => okMul_r (by decide) (by decide)
    have p1 : (0 : Int) < 2147483647 := by decide
    have p2 : (0 : Int) < 40009 := by decide
    have p3 : (0 : Int) < 2147483629 := by decide
    have p4 : (0 : Int) < 2147483587 := by decide
    have hc : ∃ v : Int, callF gl P (d + 1) j [.ref r, .int n] s = .ok (.int (v % n)) s' := by
      refine ⟨((((y + 48271 * (z + 1)) * (39373 + (z + 1)) % 2147483647 + (z + 1) + y / 1000003) * ((y + 48271 * (z + 1)) * (39373 + (z + 1)) % 2147483647 % 40009 + 7) % 2147483629 * 48271 + (y + 48271 * (z + 1)) * (39373 + (z + 1)) % 2147483647) % 2147483587 / 64), ?_⟩
      rw [callF_at hj rfl]
      simp only [fTake, w_bind, w_bindx, w_to, w_tox, w_quiet, w_sq, w_sqr, w_sqx, w_lp, w_lpr, w_vw, w_bw, w_fin, w_finx, k_b, k_c2, k_q2, w_or, k_c, k_ht, k_hf, k_h2, k_h, k_at, k_af, k_a, k_ot, k_of, k_o, k_n, k_T2, k_T, k_it, k_if, k_g, k_s, k_x, k_l3, k_l2, k_l, k_e2, k_e, k_as, k_u3, k_u2, k_u, k_set2, k_set, k_ret, k_ift, k_iff, k_wt, k_wf, e_cst, e_var, e_bin, e_neg, e_cmp, e_chain, e_and, e_or, e_not, e_ife, e_call, e_bi, e_isi, e_tup, e_lst, e_ix, e_sl, es_nil, es_cons, e_T, eA_one, eA_cons, eO_one, eO_cons, tr_bl, tr_int, a_nm, a_tup, a_sub, as_nil, as_cons, x_nil, x_cons, x_set, x_ife, x_ret, x_rais, List.getElem?_cons_zero, List.getElem?_cons_succ, List.length_cons, List.length_nil, List.map_cons, List.map_nil, List.cons_append, List.nil_append, Nat.reduceSub, Nat.reduceAdd, List.replicate_succ, List.replicate_zero, List.set_cons_zero, List.set_cons_succ, Nat.zero_add, Nat.sub_self, b_add, b_sub, b_ge, b_gt, b_le, b_lt, b_eq, b_ne, b_mul, b_fdiv, b_mod, u_abs, u_inti, u_intb, u_gcd, Bool.not_true, Bool.not_false, is_iI, is_iB, is_iL, is_iT, is_iLT, is_iBS, is_bI, is_bB, is_bLT, is_bBS, is_tL, is_tT, is_tLT, is_lL, is_lT, is_lLT, n_i, n_b, b_eqb, b_neb, i_sq, j_tup, j_lst, j_scr, i_zip, j_zip, j_zipT, j_zipL, u_tupleL, u_tupleT, deep_int, deep_bl, List.take_length, u_all2, w_upi, w_upb, w_upt, w_upl, u_len2, u_list2, k_t2, k_t3, m_l1, m_l2, m_l3, m_l4, m_l5, x_tup0, x_tup1, okMul_1, b_eqt, decide_true, decide_false, Bool.true_and, Bool.false_and, hx0, e1, hx2, st, hx1', hx2', d1, d2, o1, o2, o3, o4, p1, p2, p3, p4, hn, tk]
    obtain ⟨v, hc⟩ := hc
    exact ⟨v % n, s', hc, Int.emod_nonneg _ (by omega), Int.emod_lt_of_pos _ hn, ⟨x, y, z + 1, g', y0, y1, by omega, by omega⟩, l', fun q hq => by rw [hs']; exact List.getElem?_set_ne (fun e => hq e.symm)⟩

end

theorem for_nil {f : Ev} {ex : Ex} {t : T} {b : List S} {n k : Nat} {e : En} {s : Sto} : exFor f ex t b none n k [] e s = .ok .next e s := rfl
theorem for_step {f : Ev} {ex : Ex} {t : T} {b : List S} {n k : Nat} {x : D} {xs : List D} {e e1 e2 : En} {s s1 s2 : Sto} (h : asg f t x e s = .ok e1 s1) (h2 : exs ex b e1 s1 = .ok .next e2 s2) : exFor f ex t b none n k (x :: xs) e s = exFor f ex t b none n (k + 1) xs e2 s2 := by
  show (quiet (asg f t x e s)).to e _ = _
  rw [h, w_quiet, w_to]
  simp only [h2]
def Kfor (f : Ev) (ex : Ex) (t : T) (b : List S) (e : En) (p : Src × List D) (s : Sto) : RS := exFor f ex t b p.1 p.2.length 0 p.2 e s
theorem x_for {ev : Ev} {w n : Nat} {t : T} {it : It} {b : List S} {e : En} {s : Sto} : exS ev w (n + 1) (.for_ t it b) e s = (evIt ev it e s).to e (Kfor ev (exS ev w n) t b e) := rfl

theorem u_lenR {k : Nat} {lk : Bool} {xs : List D} {s : Sto} (h : s[k]? = some (.lst lk xs)) : biD .len [.ref k] s = .ok (.int xs.length) s := by
  show (match items s (.ref k) with
    | some xs => R.ok (D.int xs.length) s
    | none => .fail) = _
  simp only [items, h]
theorem b_pow18 (s : Sto) : binD .pow (.int 10) (.int 18) s = .ok (.int 1000000000000000000) s := rfl
theorem back_ref {m i : Nat} {s : Sto} (h : ¬ i < m) : back m (.ref i) s = .ok (.ref i) s := if_neg (by
  show ¬ (decide (i < m) = true)
  simpa using h)

theorem box_ok {gl : PySem.Str → Option D} {P : List F} {d j q : Nat} {s : Sto} {z c : Int} (hj : P[j]? = some (fBox z)) (z0 : 0 ≤ z) (z1 : z < 1000000000) (h : s[q]? = some (.lst false [.int c])) : ∃ (a b : Int), callF gl P (d + 1) j [.ref q, .int 0] s = .ok (.ref s.length) (s ++ [.lst false [.int a, .int b, .int 0]]) ∧ 0 ≤ b ∧ b < 2 ^ 62 := by
  have l : biD .len [.ref q] s = .ok (.int 1) s := u_lenR h
  have x0 : ixD (.ref q) (.int 0) s = .ok (.int c) s := ix_ref (p := 0) _ _ _ h rfl rfl
  have e1 : decide ((0 : Int) < 1) = true := rfl
  have o1 : ∀ (x : Int) (b : Bool), okMul x (if b then 1 else 0) = true := fun x b => okMul_r (by cases b <;> decide) (by cases b <;> decide)
  have o2 : okMul 39373 0 = true := okMul_l (by decide) (by decide)
  have p1 : (0 : Int) < 2305843009213693951 := by decide
  have mk := fun a b : Int => m_r [.int a, .int b, .int 0] s (by show 3 ≤ lim; decide) rfl
  have hc : ∃ a, callF gl P (d + 1) j [.ref q, .int 0] s = .ok (.ref s.length) (s ++ [.lst false [.int a, .int (c % 2305843009213693951 + 39373 * 0 + z), .int 0]]) := by
    refine ⟨(if c < 0 then -c else c) * (if decide (1000000000000000000 ≤ (if c < 0 then -c else c)) = true then 1 else 0), ?_⟩
    rw [callF_at hj rfl]
    simp only [fBox, w_bind, w_bindx, w_to, w_tox, w_quiet, w_sq, w_sqr, w_sqx, w_lp, w_lpr, w_vw, w_bw, w_fin, w_finx, k_b, k_c2, k_q2, w_or, k_c, k_ht, k_hf, k_h2, k_h, k_at, k_af, k_a, k_ot, k_of, k_o, k_n, k_T2, k_T, k_it, k_if, k_g, k_s, k_x, k_l3, k_l2, k_l, k_e2, k_e, k_as, k_u3, k_u2, k_u, k_set2, k_set, k_ret, k_ift, k_iff, k_wt, k_wf, e_cst, e_var, e_bin, e_neg, e_cmp, e_chain, e_and, e_or, e_not, e_ife, e_call, e_bi, e_isi, e_tup, e_lst, e_ix, e_sl, es_nil, es_cons, e_T, eA_one, eA_cons, eO_one, eO_cons, tr_bl, tr_int, a_nm, a_tup, a_sub, as_nil, as_cons, x_nil, x_cons, x_set, x_ife, x_ret, x_rais, List.getElem?_cons_zero, List.getElem?_cons_succ, List.length_cons, List.length_nil, List.map_cons, List.map_nil, List.cons_append, List.nil_append, Nat.reduceSub, Nat.reduceAdd, List.replicate_succ, List.replicate_zero, List.set_cons_zero, List.set_cons_succ, Nat.zero_add, Nat.sub_self, b_add, b_sub, b_ge, b_gt, b_le, b_lt, b_eq, b_ne, b_mul, b_fdiv, b_mod, u_abs, u_inti, u_intb, u_gcd, Bool.not_true, Bool.not_false, is_iI, is_iB, is_iL, is_iT, is_iLT, is_iBS, is_bI, is_bB, is_bLT, is_bBS, is_tL, is_tT, is_tLT, is_lL, is_lT, is_lLT, n_i, n_b, b_eqb, b_neb, i_sq, j_tup, j_lst, j_scr, i_zip, j_zip, j_zipT, j_zipL, u_tupleL, u_tupleT, deep_int, deep_bl, List.take_length, u_all2, w_upi, w_upb, w_upt, w_upl, u_len2, u_list2, k_t2, k_t3, m_l1, m_l2, m_l3, m_l4, m_l5, x_tup0, x_tup1, okMul_1, b_eqt, decide_true, decide_false, Bool.true_and, Bool.false_and, l, x0, e1, b_pow18, o1, o2, p1, mk, back_ref (Nat.lt_irrefl s.length)]
  obtain ⟨a, hc⟩ := hc
  exact ⟨a, _, hc, by omega, by omega⟩

def Jenu (x : D) (s : Sto) : R (Src × List D) := match x with
    | .lst xs => .ok (none, enumD 0 xs) s
    | .tup xs => .ok (none, enumD 0 xs) s
    | x => (match isL s x with
      | some xs => .ok (some (0, .all (wit x xs)), enumD 0 xs) s
      | none => .fail)
theorem i_enu (f : Ev) (a e s) : evIt f (.enu a) e s = (f a e s).bind Jenu := rfl
theorem j_enu (xs : List D) (s : Sto) : Jenu (.lst xs) s = .ok (none, enumD 0 xs) s := rfl
def Jo (x : D) (s : Sto) : R (Option Int) := match x with
    | .int i => .ok (some i) s
    | _ => .fail
theorem o_none (f : Ev) (e s) : evO f none e s = .ok none s := rfl
theorem o_some (f : Ev) (c e s) : evO f (some c) e s = (f c e s).bind Jo := rfl
theorem j_o (i : Int) (s : Sto) : Jo (.int i) s = .ok (some i) s := rfl
theorem sl_scr (ns : List Int) (lo hi : Option Int) (s : Sto) : slD (.scr ns) lo hi s = .ok (.lst ((cut ns lo hi).map D.int)) s := rfl
theorem l_listR (xs : List D) (s : Sto) : biD .listR [.lst xs] s = mkL true xs s := rfl
theorem tr_ref {k : Nat} {lk : Bool} {xs : List D} {s : Sto} (h : s[k]? = some (.lst lk xs)) : truth s (.ref k) = some (!xs.isEmpty) := by
  simp only [truth, h]

def bodyCells : List S := [(.set (.nm 5) (.bin .mod (.bi .int [(.var 3)]) (.var 1))), (.set (.sub (.var 2) (.var 5)) (.bin .add (.ix (.var 2) (.var 5)) (.bin .mul (.var 4) (.bin .add (.var 3) (.cst (D.int (2)))))))]
theorem cells_loop {cf : CF} {w n : Nat} {X : D} : ∀ (zs : List Int) (k : Nat) (c : Int) (x3 x4 x5 : Option D), k + zs.length ≤ 1000 → ∃ c' y3 y4 y5, exFor (evE cf gl 61) (exS (evE cf gl 61) w 60) (.tup [.nm 3, .nm 4]) bodyCells none n k (enumD k (zs.map D.int)) [some X, some (.int 1), some (.ref 0), x3, x4, x5] [.lst false [.int c]]
    = .ok .next [some X, some (.int 1), some (.ref 0), y3, y4, y5] [.lst false [.int c']]
  | [], k, c, x3, x4, x5, h => ⟨c, x3, x4, x5, rfl⟩
  | z :: zs, k, c, x3, x4, x5, h => by
    rw [List.length_cons] at h
    have h0 : ([SO.lst false [D.int c]] : Sto)[0]? = some (.lst false [.int c]) := rfl
    have x0 : ixD (.ref 0) (.int 0) [SO.lst false [D.int c]] = .ok (.int c) [SO.lst false [D.int c]] := ix_ref (p := 0) _ _ _ h0 rfl rfl
    have o1 : okMul z ((k : Int) + 2) = true := okMul_r (by omega) (by omega)
    have p1 : (0 : Int) < 1 := by decide
    have st : sto [SO.lst false [D.int c]] 0 0 (.int (c + z * ((k : Int) + 2))) = some [.lst false [.int (c + z * ((k : Int) + 2))]] := st_ok (p := 0) h0 rfl rfl
    have hb : exs (exS (evE cf gl 61) w 60) bodyCells [some X, some (.int 1), some (.ref 0), some (.int k), some (.int z), x5] [.lst false [.int c]] = .ok .next [some X, some (.int 1), some (.ref 0), some (.int k), some (.int z), some (.int 0)] [.lst false [.int (c + z * ((k : Int) + 2))]] := by
      simp only [bodyCells, w_bind, w_bindx, w_to, w_tox, w_quiet, w_sq, w_sqr, w_sqx, w_lp, w_lpr, w_vw, w_bw, w_fin, w_finx, k_b, k_c2, k_q2, w_or, k_c, k_ht, k_hf, k_h2, k_h, k_at, k_af, k_a, k_ot, k_of, k_o, k_n, k_T2, k_T, k_it, k_if, k_g, k_s, k_x, k_l3, k_l2, k_l, k_e2, k_e, k_as, k_u3, k_u2, k_u, k_set2, k_set, k_ret, k_ift, k_iff, k_wt, k_wf, e_cst, e_var, e_bin, e_neg, e_cmp, e_chain, e_and, e_or, e_not, e_ife, e_call, e_bi, e_isi, e_tup, e_lst, e_ix, e_sl, es_nil, es_cons, e_T, eA_one, eA_cons, eO_one, eO_cons, tr_bl, tr_int, a_nm, a_tup, a_sub, as_nil, as_cons, x_nil, x_cons, x_set, x_ife, x_ret, x_rais, List.getElem?_cons_zero, List.getElem?_cons_succ, List.length_cons, List.length_nil, List.map_cons, List.map_nil, List.cons_append, List.nil_append, Nat.reduceSub, Nat.reduceAdd, List.replicate_succ, List.replicate_zero, List.set_cons_zero, List.set_cons_succ, Nat.zero_add, Nat.sub_self, b_add, b_sub, b_ge, b_gt, b_le, b_lt, b_eq, b_ne, b_mul, b_fdiv, b_mod, u_abs, u_inti, u_intb, u_gcd, Bool.not_true, Bool.not_false, is_iI, is_iB, is_iL, is_iT, is_iLT, is_iBS, is_bI, is_bB, is_bLT, is_bBS, is_tL, is_tT, is_tLT, is_lL, is_lT, is_lLT, n_i, n_b, b_eqb, b_neb, i_sq, j_tup, j_lst, j_scr, i_zip, j_zip, j_zipT, j_zipL, u_tupleL, u_tupleT, deep_int, deep_bl, List.take_length, u_all2, w_upi, w_upb, w_upt, w_upl, u_len2, u_list2, k_t2, k_t3, m_l1, m_l2, m_l3, m_l4, m_l5, x_tup0, x_tup1, okMul_1, b_eqt, decide_true, decide_false, Bool.true_and, Bool.false_and, Int.emod_one, x0, o1, p1, st]
    have ha : asg (evE cf gl 61) (.tup [.nm 3, .nm 4]) (.tup [.int k, .int z]) [some X, some (.int 1), some (.ref 0), x3, x4, x5] [.lst false [.int c]] = .ok [some X, some (.int 1), some (.ref 0), some (.int k), some (.int z), x5] [.lst false [.int c]] := by
      simp only [w_bind, w_bindx, w_to, w_tox, w_quiet, w_sq, w_sqr, w_sqx, w_lp, w_lpr, w_vw, w_bw, w_fin, w_finx, k_b, k_c2, k_q2, w_or, k_c, k_ht, k_hf, k_h2, k_h, k_at, k_af, k_a, k_ot, k_of, k_o, k_n, k_T2, k_T, k_it, k_if, k_g, k_s, k_x, k_l3, k_l2, k_l, k_e2, k_e, k_as, k_u3, k_u2, k_u, k_set2, k_set, k_ret, k_ift, k_iff, k_wt, k_wf, e_cst, e_var, e_bin, e_neg, e_cmp, e_chain, e_and, e_or, e_not, e_ife, e_call, e_bi, e_isi, e_tup, e_lst, e_ix, e_sl, es_nil, es_cons, e_T, eA_one, eA_cons, eO_one, eO_cons, tr_bl, tr_int, a_nm, a_tup, a_sub, as_nil, as_cons, x_nil, x_cons, x_set, x_ife, x_ret, x_rais, List.getElem?_cons_zero, List.getElem?_cons_succ, List.length_cons, List.length_nil, List.map_cons, List.map_nil, List.cons_append, List.nil_append, Nat.reduceSub, Nat.reduceAdd, List.replicate_succ, List.replicate_zero, List.set_cons_zero, List.set_cons_succ, Nat.zero_add, Nat.sub_self, b_add, b_sub, b_ge, b_gt, b_le, b_lt, b_eq, b_ne, b_mul, b_fdiv, b_mod, u_abs, u_inti, u_intb, u_gcd, Bool.not_true, Bool.not_false, is_iI, is_iB, is_iL, is_iT, is_iLT, is_iBS, is_bI, is_bB, is_bLT, is_bBS, is_tL, is_tT, is_tLT, is_lL, is_lT, is_lLT, n_i, n_b, b_eqb, b_neb, i_sq, j_tup, j_lst, j_scr, i_zip, j_zip, j_zipT, j_zipL, u_tupleL, u_tupleT, deep_int, deep_bl, List.take_length, u_all2, w_upi, w_upb, w_upt, w_upl, u_len2, u_list2, k_t2, k_t3, m_l1, m_l2, m_l3, m_l4, m_l5, x_tup0, x_tup1, okMul_1, b_eqt, decide_true, decide_false, Bool.true_and, Bool.false_and]
    obtain ⟨c', y3, y4, y5, q⟩ := cells_loop (cf := cf) (w := w) (n := n) (X := X) zs (k + 1) (c + z * ((k : Int) + 2)) (some (.int k)) (some (.int z)) (some (.int 0)) (by omega)
    refine ⟨c', y3, y4, y5, ?_⟩
    show exFor _ _ _ _ none n k (.tup [.int k, .int z] :: enumD (k + 1) (zs.map D.int)) _ _ = _
    rw [for_step ha hb]
    exact q

theorem cells_two {gl : PySem.Str → Option D} {P : List F} {d j : Nat} (hj : P[j]? = some fCells) : ∀ (ns : List Int), ns.length ≤ 63 → (∃ c : Int, callF gl P (d + 1) j [.scr ns, .int 1] [] = .ok (.ref 0) [.lst false [.int c]]) ∨ callF gl P (d + 1) j [.scr ns, .int 1] [] = .ok (.ref 1) [.lst false [], .lst false [.int 0]]
  | [], _ => by
    refine .inr ?_
    rw [callF_at hj rfl]
    have mk : mkL true [] [] = .ok (.ref 0) [.lst false []] := rfl
    have mk2 : mkL true [.int 0] [.lst false []] = .ok (.ref 1) [.lst false [], .lst false [.int 0]] := rfl
    have tr : truth [SO.lst false []] (.ref 0) = some false := rfl
    have c1 : cut ([] : List Int) none (some 1) = [] := rfl
    have c2 : cut ([] : List Int) (some 1) (some 63) = [] := rfl
    have bk : back 0 (.ref 1) [SO.lst false [], SO.lst false [D.int 0]] = .ok (.ref 1) [SO.lst false [], SO.lst false [D.int 0]] := back_ref (by omega)
    simp only [fCells, w_bind, w_bindx, w_to, w_tox, w_quiet, w_sq, w_sqr, w_sqx, w_lp, w_lpr, w_vw, w_bw, w_fin, w_finx, k_b, k_c2, k_q2, w_or, k_c, k_ht, k_hf, k_h2, k_h, k_at, k_af, k_a, k_ot, k_of, k_o, k_n, k_T2, k_T, k_it, k_if, k_g, k_s, k_x, k_l3, k_l2, k_l, k_e2, k_e, k_as, k_u3, k_u2, k_u, k_set2, k_set, k_ret, k_ift, k_iff, k_wt, k_wf, e_cst, e_var, e_bin, e_neg, e_cmp, e_chain, e_and, e_or, e_not, e_ife, e_call, e_bi, e_isi, e_tup, e_lst, e_ix, e_sl, es_nil, es_cons, e_T, eA_one, eA_cons, eO_one, eO_cons, tr_bl, tr_int, a_nm, a_tup, a_sub, as_nil, as_cons, x_nil, x_cons, x_set, x_ife, x_ret, x_rais, List.getElem?_cons_zero, List.getElem?_cons_succ, List.length_cons, List.length_nil, List.map_cons, List.map_nil, List.cons_append, List.nil_append, Nat.reduceSub, Nat.reduceAdd, List.replicate_succ, List.replicate_zero, List.set_cons_zero, List.set_cons_succ, Nat.zero_add, Nat.sub_self, b_add, b_sub, b_ge, b_gt, b_le, b_lt, b_eq, b_ne, b_mul, b_fdiv, b_mod, u_abs, u_inti, u_intb, u_gcd, Bool.not_true, Bool.not_false, is_iI, is_iB, is_iL, is_iT, is_iLT, is_iBS, is_bI, is_bB, is_bLT, is_bBS, is_tL, is_tT, is_tLT, is_lL, is_lT, is_lLT, n_i, n_b, b_eqb, b_neb, i_sq, j_tup, j_lst, j_scr, i_zip, j_zip, j_zipT, j_zipL, u_tupleL, u_tupleT, deep_int, deep_bl, List.take_length, u_all2, w_upi, w_upb, w_upt, w_upl, u_len2, u_list2, k_t2, k_t3, m_l1, m_l2, m_l3, m_l4, m_l5, x_tup0, x_tup1, okMul_1, b_eqt, decide_true, decide_false, Bool.true_and, Bool.false_and, o_none, o_some, j_o, sl_scr, c1, c2, l_listR, mk, mk2, tr, x_for, i_enu, j_enu, Kfor, enumD, for_nil, bk]
  | z :: zs, hz => by
    rw [List.length_cons] at hz
    have c1 : cut (z :: zs) none (some 1) = [z] := by
      have hm : min 1 (zs.length + 1) = 1 := by omega
      simp [cut, cutI, hm]
    have c2 : (cut (z :: zs) (some 1) (some 63)).length ≤ 100 := by
      unfold cut
      rw [List.length_take, List.length_drop, List.length_cons]
      omega
    obtain ⟨c', y3, y4, y5, q⟩ := cells_loop (cf := callF gl P d) (gl := gl) (w := 100000) (n := (enumD 0 ((cut (z :: zs) (some 1) (some 63)).map D.int)).length) (X := .scr (z :: zs)) (cut (z :: zs) (some 1) (some 63)) 0 z none none none (by omega)
    refine .inl ⟨c', ?_⟩
    rw [callF_at hj rfl]
    have mk : mkL true [.int z] [] = .ok (.ref 0) [.lst false [.int z]] := rfl
    have tr : truth [SO.lst false [D.int z]] (.ref 0) = some true := rfl
    have bk : back 0 (.ref 0) [SO.lst false [D.int c']] = .ok (.ref 0) [SO.lst false [D.int c']] := back_ref (by omega)
    unfold bodyCells at q
    simp only [fCells, w_bind, w_bindx, w_to, w_tox, w_quiet, w_sq, w_sqr, w_sqx, w_lp, w_lpr, w_vw, w_bw, w_fin, w_finx, k_b, k_c2, k_q2, w_or, k_c, k_ht, k_hf, k_h2, k_h, k_at, k_af, k_a, k_ot, k_of, k_o, k_n, k_T2, k_T, k_it, k_if, k_g, k_s, k_x, k_l3, k_l2, k_l, k_e2, k_e, k_as, k_u3, k_u2, k_u, k_set2, k_set, k_ret, k_ift, k_iff, k_wt, k_wf, e_cst, e_var, e_bin, e_neg, e_cmp, e_chain, e_and, e_or, e_not, e_ife, e_call, e_bi, e_isi, e_tup, e_lst, e_ix, e_sl, es_nil, es_cons, e_T, eA_one, eA_cons, eO_one, eO_cons, tr_bl, tr_int, a_nm, a_tup, a_sub, as_nil, as_cons, x_nil, x_cons, x_set, x_ife, x_ret, x_rais, List.getElem?_cons_zero, List.getElem?_cons_succ, List.length_cons, List.length_nil, List.map_cons, List.map_nil, List.cons_append, List.nil_append, Nat.reduceSub, Nat.reduceAdd, List.replicate_succ, List.replicate_zero, List.set_cons_zero, List.set_cons_succ, Nat.zero_add, Nat.sub_self, b_add, b_sub, b_ge, b_gt, b_le, b_lt, b_eq, b_ne, b_mul, b_fdiv, b_mod, u_abs, u_inti, u_intb, u_gcd, Bool.not_true, Bool.not_false, is_iI, is_iB, is_iL, is_iT, is_iLT, is_iBS, is_bI, is_bB, is_bLT, is_bBS, is_tL, is_tT, is_tLT, is_lL, is_lT, is_lLT, n_i, n_b, b_eqb, b_neb, i_sq, j_tup, j_lst, j_scr, i_zip, j_zip, j_zipT, j_zipL, u_tupleL, u_tupleT, deep_int, deep_bl, List.take_length, u_all2, w_upi, w_upb, w_upt, w_upl, u_len2, u_list2, k_t2, k_t3, m_l1, m_l2, m_l3, m_l4, m_l5, x_tup0, x_tup1, okMul_1, b_eqt, decide_true, decide_false, Bool.true_and, Bool.false_and, o_none, o_some, j_o, sl_scr, c1, l_listR, mk, tr, x_for, i_enu, j_enu, Kfor, q, bk]

theorem cells_ok {gl : PySem.Str → Option D} {P : List F} {d j : Nat} (hj : P[j]? = some fCells) (ns : List Int) (hz : ns.length ≤ 63) : ∃ (q : Nat) (c : Int) (s' : Sto), callF gl P (d + 1) j [.scr ns, .int 1] [] = .ok (.ref q) s' ∧ s'[q]? = some (.lst false [.int c]) := by
  rcases cells_two (gl := gl) (d := d) hj ns hz with ⟨c, h⟩ | h
  · exact ⟨0, c, _, h, rfl⟩
  · exact ⟨1, 0, _, h, rfl⟩
/-- a law's first box -/
theorem tin_made {gl : PySem.Str → Option D} {P : List F} {d j b : Nat} {z : Int} (hj : P[j]? = some fCells) (hb : P[b]? = some (fBox z)) (z0 : 0 ≤ z) (z1 : z < 1000000000) (ns : List Int) (hz : ns.length ≤ 63) :
    ∃ (q r : Nat) (s1 s2 : Sto), callF gl P (d + 1) j [.scr ns, .int 1] [] = .ok (.ref q) s1 ∧ callF gl P (d + 1) b [.ref q, .int 0] s1 = .ok (.ref r) s2 ∧ Tin r 0 s2 ∧ (s2.length = 2 ∨ s2.length = 3) := by
  rcases cells_two (gl := gl) (d := d) hj ns hz with ⟨c, h⟩ | h
  · obtain ⟨x, y, h2, b1, b2⟩ := box_ok (gl := gl) (P := P) (d := d) (q := 0) (s := [.lst false [.int c]]) hb z0 z1 rfl
    exact ⟨0, 1, _, _, h, h2, ⟨x, y, 0, rfl, b1, b2, by decide, by decide⟩, .inl rfl⟩
  · obtain ⟨x, y, h2, b1, b2⟩ := box_ok (gl := gl) (P := P) (d := d) (q := 1) (s := [.lst false [], .lst false [.int 0]]) hb z0 z1 rfl
    exact ⟨1, 2, _, _, h, h2, ⟨x, y, 0, rfl, b1, b2, by decide, by decide⟩, .inr rfl⟩
theorem hand_any {gl : PySem.Str → Option D} {P : List F} {d k : Nat} {s : Sto} (h2 : ∀ A B, callF gl P d k [] [A, B] = .ok (.bl true) [A, B]) (h3 : ∀ A B C, callF gl P d k [] [A, B, C] = .ok (.bl true) [A, B, C]) (h : s.length = 2 ∨ s.length = 3) : callF gl P d k [] s = .ok (.bl true) s := by
  rcases h with h | h
  · match s, h with
    | [A, B], _ => exact h2 A B
  · match s, h with
    | [A, B, C], _ => exact h3 A B C

end Bw

set_option linter.all false
/-! Wm: wheels, by themselves -/
namespace Bw
/-- where a wheel leads a number -/
def ledI (d : List Int) (z : Int) : Int := d.getD (z % d.length).toNat 0 + z / d.length * d.length
structure Wh (d : List Int) : Prop where
  pos : 0 < d.length
  asc : ∀ i j, i ≤ j → j < d.length → d.getD i 0 ≤ d.getD j 0
  top : d.getD (d.length - 1) 0 ≤ d.getD 0 0 + d.length
theorem ledI_add (d : List Int) (h : 0 < d.length) (z k : Int) : ledI d (z + k * d.length) = ledI d z + k * d.length := by
  have hn : (d.length : Int) ≠ 0 := by omega
  unfold ledI
  rw [Int.add_mul_emod_self_right, Int.add_mul_ediv_right _ _ hn, Int.add_mul]
  omega
theorem ledI_step {d : List Int} (W : Wh d) (z : Int) : ledI d z ≤ ledI d (z + 1) := by
  have hp := W.pos
  have hn : (0 : Int) < d.length := by omega
  have h1 := Int.emod_nonneg z (b := (d.length : Int)) (by omega)
  have h2 := Int.emod_lt_of_pos z hn
  have h3 := Int.mul_ediv_add_emod z d.length
  by_cases hr : z % d.length + 1 < d.length
  · have e1 : (z + 1) % d.length = z % d.length + 1 := by
      rw [← Int.emod_add_emod]
      exact Int.emod_eq_of_lt (by omega) hr
    have h3' := Int.mul_ediv_add_emod (z + 1) d.length
    rw [e1] at h3'
    have e2 : (d.length : Int) * ((z + 1) / d.length) = d.length * (z / d.length) := by omega
    have e3 : (z + 1) / d.length = z / d.length := Int.eq_of_mul_eq_mul_left (by omega) e2
    unfold ledI
    rw [e1, e3]
    have := W.asc (z % d.length).toNat (z % d.length + 1).toNat (by omega) (by omega)
    omega
  · have hz : z + 1 = (z / d.length + 1) * d.length := by
      rw [Int.add_mul, Int.mul_comm]
      omega
    have e0 : ledI d (z + 1) = d.getD 0 0 + (z / d.length + 1) * d.length := by
      rw [hz, show (z / (d.length : Int) + 1) * (d.length : Int) = 0 + (z / (d.length : Int) + 1) * (d.length : Int) by omega, ledI_add d hp]
      unfold ledI
      simp
    rw [e0]
    unfold ledI
    have e1 : (z % (d.length : Int)).toNat = d.length - 1 := by omega
    rw [e1, Int.add_mul]
    have := W.top
    omega
theorem ledI_up {d : List Int} (W : Wh d) (z : Int) : ∀ n : Nat, ledI d z ≤ ledI d (z + n)
  | 0 => by simp
  | n + 1 => by
    have h1 := ledI_up W z n
    have h2 := ledI_step W (z + n)
    rw [show z + ((n + 1 : Nat) : Int) = z + (n : Int) + 1 by omega]
    omega
theorem ledI_mono {d : List Int} (W : Wh d) {x y : Int} (h : x ≤ y) : ledI d x ≤ ledI d y := by
  have := ledI_up W x (y - x).toNat
  rw [show x + ((y - x).toNat : Int) = y by omega] at this
  exact this
/-- x is the first that is led to g or beyond -/
def isF (d : List Int) (g x : Int) : Prop := g ≤ ledI d x ∧ ledI d (x - 1) < g
theorem isF_one {d : List Int} (W : Wh d) {g x y : Int} (h : isF d g x) (k : isF d g y) : x = y := by
  rcases Int.lt_trichotomy x y with l | l | l
  · have := ledI_mono W (show x ≤ y - 1 by omega)
    have := h.1
    have := k.2
    omega
  · exact l
  · have := ledI_mono W (show y ≤ x - 1 by omega)
    have := h.2
    have := k.1
    omega
theorem isF_iff {d : List Int} (W : Wh d) {g x : Int} (h : isF d g x) (y : Int) : g ≤ ledI d y ↔ x ≤ y := by
  constructor
  · intro k
    by_cases l : x ≤ y
    · exact l
    · have := ledI_mono W (show y ≤ x - 1 by omega)
      have := h.2
      omega
  · intro k
    have := ledI_mono W k
    have := h.1
    omega
theorem isF_add {d : List Int} (hp : 0 < d.length) {g x : Int} (h : isF d g x) (k : Int) : isF d (g + k * d.length) (x + k * d.length) := by
  refine ⟨?_, ?_⟩
  · rw [ledI_add d hp]
    have := h.1
    omega
  · rw [show x + k * (d.length : Int) - 1 = (x - 1) + k * d.length by omega, ledI_add d hp]
    have := h.2
    omega
/-- the firsts of a whole ring, told on -/
theorem isF_led {d fs : List Int} (hp : 0 < d.length) (hl : fs.length = d.length) (h : ∀ i : Nat, i < d.length → isF d i (fs.getD i 0)) (z : Int) : isF d z (ledI fs z) := by
  have hn : (0 : Int) < d.length := by omega
  have h1 := Int.emod_nonneg z (b := (d.length : Int)) (by omega)
  have h2 := Int.emod_lt_of_pos z hn
  have h3 := Int.mul_ediv_add_emod z d.length
  have q := isF_add hp (h (z % d.length).toNat (by omega)) (z / d.length)
  rw [show ((z % (d.length : Int)).toNat : Int) + z / d.length * d.length = z by rw [Int.mul_comm]; omega] at q
  unfold ledI
  rw [hl]
  exact q
end Bw

set_option linter.all false
set_option maxRecDepth 100000
set_option maxHeartbeats 1000000
/-! Bw: wheels in the small language: what the defs of kinds.py and wheels.py tell of a wheel -/
namespace Bw
open PySem
/-- numbers as a tuple -/
abbrev TI (d : List Int) : D := .tup (d.map D.int)
def fIsNum : F := ⟨"is_number", ["value"], ["value"], [
  (.ret (.and [(.isi (.var 0) [.int]), (.not (.isi (.var 0) [.bool]))]))], 61, 100000⟩
def fAre (kn : Nat) : F := ⟨"are_numbers", ["values"], ["values", "value"], [
  (.ret (.bi .all [(.comp false (.call kn [(.var 1)]) [1] (.nm 1) (.sq (.var 0)) none)]))], 61, 100000⟩
def fWith (kw : Nat) : F := ⟨"with_tuples", ["value", "depth"], ["value", "depth", "own"], [
  (.ife (.or [(.cmp .eq (.var 1) (.cst (D.int (0)))), (.not (.isi (.var 0) [.list, .tuple]))]) [(.ret (.var 0))] []),
  (.ret (.bi .tuple [(.comp false (.call kw [(.var 2), (.bin .sub (.var 1) (.cst (D.int (1))))]) [2] (.nm 2) (.sq (.var 0)) none)]))], 61, 100000⟩
def fIsWh (ka : Nat) : F := ⟨"is_wheel", ["thing"], ["thing", "behind", "number", "further"], [
  (.ife (.or [(.not (.isi (.var 0) [.tuple])), (.cmp .eq (.var 0) (.tup [])), (.not (.call ka [(.var 0)]))]) [(.ret (.cst (D.bl false)))] []),
  (.set (.nm 1) (.bin .add (.sl (.var 0) (some (.cst (D.int (1)))) none) (.tup [(.bin .add (.ix (.var 0) (.cst (D.int (0)))) (.bi .len [(.var 0)]))]))),
  (.ret (.bi .all [(.comp false (.cmp .le (.var 2) (.var 3)) [2, 3] (.tup [(.nm 2), (.nm 3)]) (.zip (.var 0) (.var 1)) none)]))], 61, 100000⟩
def fAsWh (kw ki : Nat) : F := ⟨"as_wheel", ["value"], ["value", "told"], [
  (.set (.nm 1) (.call kw [(.var 0), (.cst (D.int (1)))])),
  (.ife (.not (.call ki [(.var 1)])) [(.rais "Unfit")] []),
  (.ret (.var 1))], 61, 100000⟩
def fLed : F := ⟨"led_to", ["wheel", "number"], ["wheel", "number", "places"], [
  (.set (.nm 2) (.bi .len [(.var 0)])),
  (.ret (.bin .add (.ix (.var 0) (.bin .mod (.var 1) (.var 2))) (.bin .mul (.bin .fdiv (.var 1) (.var 2)) (.var 2))))], 61, 100000⟩
structure HasW (P : List F) (kn ka kw ki ks kl : Nat) : Prop where
  hn : P[kn]? = some fIsNum
  ha : P[ka]? = some (fAre kn)
  hw : P[kw]? = some (fWith kw)
  hi : P[ki]? = some (fIsWh ka)
  hs : P[ks]? = some (fAsWh kw ki)
  hl : P[kl]? = some fLed
section
variable {gl : PySem.Str → Option D} {P : List F} {kn ka kw ki ks kl n : Nat} {s : Sto} {d : List Int} {i z : Int}
theorem ints_all {d : List Int} : ∀ x ∈ d.map D.int, ∃ i, x = .int i := fun x hx => by
  obtain ⟨i, _, rfl⟩ := List.mem_map.mp hx
  exact ⟨i, rfl⟩
theorem deeps_ints (m : Nat) : ∀ d : List Int, deeps m (d.map D.int) = true
  | [] => rfl
  | i :: d => by
    rw [List.map_cons, deeps, deeps_ints m d]
    rfl
theorem back_TI (m : Nat) (d : List Int) (s : Sto) : back m (TI d) s = .ok (TI d) (s.take m) := w_up _ (show deeps m (d.map D.int) = true from deeps_ints m d)
theorem back_TI' (d : List Int) (s : Sto) : back s.length (TI d) s = .ok (TI d) s := by
  rw [back_TI, List.take_length]
theorem num_ok (h : P[kn]? = some fIsNum) : callF gl P (n + 1) kn [.int i] s = .ok (.bl true) s := by
  rw [callF_at h rfl]
  simp only [fIsNum, w_bind, w_bindx, w_to, w_tox, w_quiet, w_sq, w_sqr, w_sqx, w_lp, w_lpr, w_vw, w_bw, w_fin, w_finx, k_b, k_c2, k_q2, w_or, k_c, k_ht, k_hf, k_h2, k_h, k_at, k_af, k_a, k_ot, k_of, k_o, k_n, k_T2, k_T, k_it, k_if, k_g, k_s, k_x, k_l3, k_l2, k_l, k_e2, k_e, k_as, k_u3, k_u2, k_u, k_set2, k_set, k_ret, k_ift, k_iff, k_wt, k_wf, e_cst, e_var, e_bin, e_neg, e_cmp, e_chain, e_and, e_or, e_not, e_ife, e_call, e_bi, e_isi, e_tup, e_lst, e_ix, e_sl, es_nil, es_cons, e_T, eA_one, eA_cons, eO_one, eO_cons, tr_bl, tr_int, a_nm, a_tup, a_sub, as_nil, as_cons, x_nil, x_cons, x_set, x_ife, x_ret, x_rais, List.getElem?_cons_zero, List.getElem?_cons_succ, List.length_cons, List.length_nil, List.map_cons, List.map_nil, List.cons_append, List.nil_append, Nat.reduceSub, Nat.reduceAdd, List.replicate_succ, List.replicate_zero, List.set_cons_zero, List.set_cons_succ, Nat.zero_add, Nat.sub_self, b_add, b_sub, b_ge, b_gt, b_le, b_lt, b_eq, b_ne, b_mul, b_fdiv, b_mod, u_abs, u_inti, u_intb, u_gcd, Bool.not_true, Bool.not_false, is_iI, is_iB, is_iL, is_iT, is_iLT, is_iBS, is_bI, is_bB, is_bLT, is_bBS, is_tL, is_tT, is_tLT, is_lL, is_lT, is_lLT, n_i, n_b, b_eqb, b_neb, i_sq, j_tup, j_lst, j_scr, i_zip, j_zip, j_zipT, j_zipL, u_tupleL, u_tupleT, deep_int, deep_bl, List.take_length, u_all2, w_upi, w_upb, w_upt, w_upl, u_len2, u_list2, k_t2, k_t3, m_l1, m_l2, m_l3, m_l4, m_l5, x_tup0, x_tup1, okMul_1, b_eqt, decide_true, decide_false, Bool.true_and, Bool.false_and]
theorem are_ok (h0 : P[kn]? = some fIsNum) (h : P[ka]? = some (fAre kn)) (hl : d.length ≤ lim) : callF gl P (n + 2) ka [TI d] s = .ok (.bl true) s := by
  rw [callF_at h rfl]
  have q := comp_val (cf := callF gl P (n + 1)) (gl := gl) (el := .call kn [.var 1]) (own := [1]) (t := .nm 1) (it := .sq (.var 0)) (n := 59) (e := [some (TI d), none]) (s := s) (xs := d.map D.int) (g := fun _ => .bl true)
    (by simp only [w_bind, w_bindx, w_to, w_tox, w_quiet, w_sq, w_sqr, w_sqx, w_lp, w_lpr, w_vw, w_bw, w_fin, w_finx, k_b, k_c2, k_q2, w_or, k_c, k_ht, k_hf, k_h2, k_h, k_at, k_af, k_a, k_ot, k_of, k_o, k_n, k_T2, k_T, k_it, k_if, k_g, k_s, k_x, k_l3, k_l2, k_l, k_e2, k_e, k_as, k_u3, k_u2, k_u, k_set2, k_set, k_ret, k_ift, k_iff, k_wt, k_wf, e_cst, e_var, e_bin, e_neg, e_cmp, e_chain, e_and, e_or, e_not, e_ife, e_call, e_bi, e_isi, e_tup, e_lst, e_ix, e_sl, es_nil, es_cons, e_T, eA_one, eA_cons, eO_one, eO_cons, tr_bl, tr_int, a_nm, a_tup, a_sub, as_nil, as_cons, x_nil, x_cons, x_set, x_ife, x_ret, x_rais, List.getElem?_cons_zero, List.getElem?_cons_succ, List.length_cons, List.length_nil, List.map_cons, List.map_nil, List.cons_append, List.nil_append, Nat.reduceSub, Nat.reduceAdd, List.replicate_succ, List.replicate_zero, List.set_cons_zero, List.set_cons_succ, Nat.zero_add, Nat.sub_self, b_add, b_sub, b_ge, b_gt, b_le, b_lt, b_eq, b_ne, b_mul, b_fdiv, b_mod, u_abs, u_inti, u_intb, u_gcd, Bool.not_true, Bool.not_false, is_iI, is_iB, is_iL, is_iT, is_iLT, is_iBS, is_bI, is_bB, is_bLT, is_bBS, is_tL, is_tT, is_tLT, is_lL, is_lT, is_lLT, n_i, n_b, b_eqb, b_neb, i_sq, j_tup, j_lst, j_scr, i_zip, j_zip, j_zipT, j_zipL, u_tupleL, u_tupleT, deep_int, deep_bl, List.take_length, u_all2, w_upi, w_upb, w_upt, w_upl, u_len2, u_list2, k_t2, k_t3, m_l1, m_l2, m_l3, m_l4, m_l5, x_tup0, x_tup1, okMul_1, b_eqt, decide_true, decide_false, Bool.true_and, Bool.false_and]) (by rw [List.length_map]; exact hl) (fun x hx s1 => by
      obtain ⟨i, rfl⟩ := ints_all x hx
      refine ⟨_, a_nm _ _ _ _ _, ?_, rfl⟩
      simp only [wipeE, num_ok h0, w_bind, w_bindx, w_to, w_tox, w_quiet, w_sq, w_sqr, w_sqx, w_lp, w_lpr, w_vw, w_bw, w_fin, w_finx, k_b, k_c2, k_q2, w_or, k_c, k_ht, k_hf, k_h2, k_h, k_at, k_af, k_a, k_ot, k_of, k_o, k_n, k_T2, k_T, k_it, k_if, k_g, k_s, k_x, k_l3, k_l2, k_l, k_e2, k_e, k_as, k_u3, k_u2, k_u, k_set2, k_set, k_ret, k_ift, k_iff, k_wt, k_wf, e_cst, e_var, e_bin, e_neg, e_cmp, e_chain, e_and, e_or, e_not, e_ife, e_call, e_bi, e_isi, e_tup, e_lst, e_ix, e_sl, es_nil, es_cons, e_T, eA_one, eA_cons, eO_one, eO_cons, tr_bl, tr_int, a_nm, a_tup, a_sub, as_nil, as_cons, x_nil, x_cons, x_set, x_ife, x_ret, x_rais, List.getElem?_cons_zero, List.getElem?_cons_succ, List.length_cons, List.length_nil, List.map_cons, List.map_nil, List.cons_append, List.nil_append, Nat.reduceSub, Nat.reduceAdd, List.replicate_succ, List.replicate_zero, List.set_cons_zero, List.set_cons_succ, Nat.zero_add, Nat.sub_self, b_add, b_sub, b_ge, b_gt, b_le, b_lt, b_eq, b_ne, b_mul, b_fdiv, b_mod, u_abs, u_inti, u_intb, u_gcd, Bool.not_true, Bool.not_false, is_iI, is_iB, is_iL, is_iT, is_iLT, is_iBS, is_bI, is_bB, is_bLT, is_bBS, is_tL, is_tT, is_tLT, is_lL, is_lT, is_lLT, n_i, n_b, b_eqb, b_neb, i_sq, j_tup, j_lst, j_scr, i_zip, j_zip, j_zipT, j_zipL, u_tupleL, u_tupleT, deep_int, deep_bl, List.take_length, u_all2, w_upi, w_upb, w_upt, w_upl, u_len2, u_list2, k_t2, k_t3, m_l1, m_l2, m_l3, m_l4, m_l5, x_tup0, x_tup1, okMul_1, b_eqt, decide_true, decide_false, Bool.true_and, Bool.false_and])
  simp only [Nat.reduceAdd] at q
  simp only [fAre, w_bind, w_bindx, w_to, w_tox, w_quiet, w_sq, w_sqr, w_sqx, w_lp, w_lpr, w_vw, w_bw, w_fin, w_finx, k_b, k_c2, k_q2, w_or, k_c, k_ht, k_hf, k_h2, k_h, k_at, k_af, k_a, k_ot, k_of, k_o, k_n, k_T2, k_T, k_it, k_if, k_g, k_s, k_x, k_l3, k_l2, k_l, k_e2, k_e, k_as, k_u3, k_u2, k_u, k_set2, k_set, k_ret, k_ift, k_iff, k_wt, k_wf, e_cst, e_var, e_bin, e_neg, e_cmp, e_chain, e_and, e_or, e_not, e_ife, e_call, e_bi, e_isi, e_tup, e_lst, e_ix, e_sl, es_nil, es_cons, e_T, eA_one, eA_cons, eO_one, eO_cons, tr_bl, tr_int, a_nm, a_tup, a_sub, as_nil, as_cons, x_nil, x_cons, x_set, x_ife, x_ret, x_rais, List.getElem?_cons_zero, List.getElem?_cons_succ, List.length_cons, List.length_nil, List.map_cons, List.map_nil, List.cons_append, List.nil_append, Nat.reduceSub, Nat.reduceAdd, List.replicate_succ, List.replicate_zero, List.set_cons_zero, List.set_cons_succ, Nat.zero_add, Nat.sub_self, b_add, b_sub, b_ge, b_gt, b_le, b_lt, b_eq, b_ne, b_mul, b_fdiv, b_mod, u_abs, u_inti, u_intb, u_gcd, Bool.not_true, Bool.not_false, is_iI, is_iB, is_iL, is_iT, is_iLT, is_iBS, is_bI, is_bB, is_bLT, is_bBS, is_tL, is_tT, is_tLT, is_lL, is_lT, is_lLT, n_i, n_b, b_eqb, b_neb, i_sq, j_tup, j_lst, j_scr, i_zip, j_zip, j_zipT, j_zipL, u_tupleL, u_tupleT, deep_int, deep_bl, List.take_length, u_all2, w_upi, w_upb, w_upt, w_upl, u_len2, u_list2, k_t2, k_t3, m_l1, m_l2, m_l3, m_l4, m_l5, x_tup0, x_tup1, okMul_1, b_eqt, decide_true, decide_false, Bool.true_and, Bool.false_and, q, all_true]
theorem with0_ok (h : P[kw]? = some (fWith kw)) : callF gl P (n + 1) kw [.int i, .int 0] s = .ok (.int i) s := by
  rw [callF_at h rfl]
  simp only [fWith, w_bind, w_bindx, w_to, w_tox, w_quiet, w_sq, w_sqr, w_sqx, w_lp, w_lpr, w_vw, w_bw, w_fin, w_finx, k_b, k_c2, k_q2, w_or, k_c, k_ht, k_hf, k_h2, k_h, k_at, k_af, k_a, k_ot, k_of, k_o, k_n, k_T2, k_T, k_it, k_if, k_g, k_s, k_x, k_l3, k_l2, k_l, k_e2, k_e, k_as, k_u3, k_u2, k_u, k_set2, k_set, k_ret, k_ift, k_iff, k_wt, k_wf, e_cst, e_var, e_bin, e_neg, e_cmp, e_chain, e_and, e_or, e_not, e_ife, e_call, e_bi, e_isi, e_tup, e_lst, e_ix, e_sl, es_nil, es_cons, e_T, eA_one, eA_cons, eO_one, eO_cons, tr_bl, tr_int, a_nm, a_tup, a_sub, as_nil, as_cons, x_nil, x_cons, x_set, x_ife, x_ret, x_rais, List.getElem?_cons_zero, List.getElem?_cons_succ, List.length_cons, List.length_nil, List.map_cons, List.map_nil, List.cons_append, List.nil_append, Nat.reduceSub, Nat.reduceAdd, List.replicate_succ, List.replicate_zero, List.set_cons_zero, List.set_cons_succ, Nat.zero_add, Nat.sub_self, b_add, b_sub, b_ge, b_gt, b_le, b_lt, b_eq, b_ne, b_mul, b_fdiv, b_mod, u_abs, u_inti, u_intb, u_gcd, Bool.not_true, Bool.not_false, is_iI, is_iB, is_iL, is_iT, is_iLT, is_iBS, is_bI, is_bB, is_bLT, is_bBS, is_tL, is_tT, is_tLT, is_lL, is_lT, is_lLT, n_i, n_b, b_eqb, b_neb, i_sq, j_tup, j_lst, j_scr, i_zip, j_zip, j_zipT, j_zipL, u_tupleL, u_tupleT, deep_int, deep_bl, List.take_length, u_all2, w_upi, w_upb, w_upt, w_upl, u_len2, u_list2, k_t2, k_t3, m_l1, m_l2, m_l3, m_l4, m_l5, x_tup0, x_tup1, okMul_1, b_eqt, decide_true, decide_false, Bool.true_and, Bool.false_and, decide_true]
/-- as a tuple or as a list -/
def TL (x : D) (d : List Int) : Prop := x = TI d ∨ x = .lst (d.map D.int)
theorem with_ok (h : P[kw]? = some (fWith kw)) {x : D} (hx : TL x d) (hl : d.length ≤ lim) : callF gl P (n + 2) kw [x, .int 1] s = .ok (TI d) s := by
  rw [callF_at h rfl]
  have q := comp_val (cf := callF gl P (n + 1)) (gl := gl) (el := .call kw [(.var 2), (.bin .sub (.var 1) (.cst (D.int (1))))]) (own := [2]) (t := .nm 2) (it := .sq (.var 0)) (n := 59) (e := [some x, some (.int 1), none]) (s := s) (xs := d.map D.int) (g := fun y => y)
    (by rcases hx with rfl | rfl <;> simp only [w_bind, w_bindx, w_to, w_tox, w_quiet, w_sq, w_sqr, w_sqx, w_lp, w_lpr, w_vw, w_bw, w_fin, w_finx, k_b, k_c2, k_q2, w_or, k_c, k_ht, k_hf, k_h2, k_h, k_at, k_af, k_a, k_ot, k_of, k_o, k_n, k_T2, k_T, k_it, k_if, k_g, k_s, k_x, k_l3, k_l2, k_l, k_e2, k_e, k_as, k_u3, k_u2, k_u, k_set2, k_set, k_ret, k_ift, k_iff, k_wt, k_wf, e_cst, e_var, e_bin, e_neg, e_cmp, e_chain, e_and, e_or, e_not, e_ife, e_call, e_bi, e_isi, e_tup, e_lst, e_ix, e_sl, es_nil, es_cons, e_T, eA_one, eA_cons, eO_one, eO_cons, tr_bl, tr_int, a_nm, a_tup, a_sub, as_nil, as_cons, x_nil, x_cons, x_set, x_ife, x_ret, x_rais, List.getElem?_cons_zero, List.getElem?_cons_succ, List.length_cons, List.length_nil, List.map_cons, List.map_nil, List.cons_append, List.nil_append, Nat.reduceSub, Nat.reduceAdd, List.replicate_succ, List.replicate_zero, List.set_cons_zero, List.set_cons_succ, Nat.zero_add, Nat.sub_self, b_add, b_sub, b_ge, b_gt, b_le, b_lt, b_eq, b_ne, b_mul, b_fdiv, b_mod, u_abs, u_inti, u_intb, u_gcd, Bool.not_true, Bool.not_false, is_iI, is_iB, is_iL, is_iT, is_iLT, is_iBS, is_bI, is_bB, is_bLT, is_bBS, is_tL, is_tT, is_tLT, is_lL, is_lT, is_lLT, n_i, n_b, b_eqb, b_neb, i_sq, j_tup, j_lst, j_scr, i_zip, j_zip, j_zipT, j_zipL, u_tupleL, u_tupleT, deep_int, deep_bl, List.take_length, u_all2, w_upi, w_upb, w_upt, w_upl, u_len2, u_list2, k_t2, k_t3, m_l1, m_l2, m_l3, m_l4, m_l5, x_tup0, x_tup1, okMul_1, b_eqt, decide_true, decide_false, Bool.true_and, Bool.false_and]) (by rw [List.length_map]; exact hl) (fun y hy s1 => by
      obtain ⟨i, rfl⟩ := ints_all y hy
      refine ⟨_, a_nm _ _ _ _ _, ?_, rfl⟩
      simp only [wipeE, w_bind, w_bindx, w_to, w_tox, w_quiet, w_sq, w_sqr, w_sqx, w_lp, w_lpr, w_vw, w_bw, w_fin, w_finx, k_b, k_c2, k_q2, w_or, k_c, k_ht, k_hf, k_h2, k_h, k_at, k_af, k_a, k_ot, k_of, k_o, k_n, k_T2, k_T, k_it, k_if, k_g, k_s, k_x, k_l3, k_l2, k_l, k_e2, k_e, k_as, k_u3, k_u2, k_u, k_set2, k_set, k_ret, k_ift, k_iff, k_wt, k_wf, e_cst, e_var, e_bin, e_neg, e_cmp, e_chain, e_and, e_or, e_not, e_ife, e_call, e_bi, e_isi, e_tup, e_lst, e_ix, e_sl, es_nil, es_cons, e_T, eA_one, eA_cons, eO_one, eO_cons, tr_bl, tr_int, a_nm, a_tup, a_sub, as_nil, as_cons, x_nil, x_cons, x_set, x_ife, x_ret, x_rais, List.getElem?_cons_zero, List.getElem?_cons_succ, List.length_cons, List.length_nil, List.map_cons, List.map_nil, List.cons_append, List.nil_append, Nat.reduceSub, Nat.reduceAdd, List.replicate_succ, List.replicate_zero, List.set_cons_zero, List.set_cons_succ, Nat.zero_add, Nat.sub_self, b_add, b_sub, b_ge, b_gt, b_le, b_lt, b_eq, b_ne, b_mul, b_fdiv, b_mod, u_abs, u_inti, u_intb, u_gcd, Bool.not_true, Bool.not_false, is_iI, is_iB, is_iL, is_iT, is_iLT, is_iBS, is_bI, is_bB, is_bLT, is_bBS, is_tL, is_tT, is_tLT, is_lL, is_lT, is_lLT, n_i, n_b, b_eqb, b_neb, i_sq, j_tup, j_lst, j_scr, i_zip, j_zip, j_zipT, j_zipL, u_tupleL, u_tupleT, deep_int, deep_bl, List.take_length, u_all2, w_upi, w_upb, w_upt, w_upl, u_len2, u_list2, k_t2, k_t3, m_l1, m_l2, m_l3, m_l4, m_l5, x_tup0, x_tup1, okMul_1, b_eqt, decide_true, decide_false, Bool.true_and, Bool.false_and, Int.sub_self, with0_ok h])
  simp only [Nat.reduceAdd, List.map_id'] at q
  rcases hx with rfl | rfl <;> (simp only [fWith, w_bind, w_bindx, w_to, w_tox, w_quiet, w_sq, w_sqr, w_sqx, w_lp, w_lpr, w_vw, w_bw, w_fin, w_finx, k_b, k_c2, k_q2, w_or, k_c, k_ht, k_hf, k_h2, k_h, k_at, k_af, k_a, k_ot, k_of, k_o, k_n, k_T2, k_T, k_it, k_if, k_g, k_s, k_x, k_l3, k_l2, k_l, k_e2, k_e, k_as, k_u3, k_u2, k_u, k_set2, k_set, k_ret, k_ift, k_iff, k_wt, k_wf, e_cst, e_var, e_bin, e_neg, e_cmp, e_chain, e_and, e_or, e_not, e_ife, e_call, e_bi, e_isi, e_tup, e_lst, e_ix, e_sl, es_nil, es_cons, e_T, eA_one, eA_cons, eO_one, eO_cons, tr_bl, tr_int, a_nm, a_tup, a_sub, as_nil, as_cons, x_nil, x_cons, x_set, x_ife, x_ret, x_rais, List.getElem?_cons_zero, List.getElem?_cons_succ, List.length_cons, List.length_nil, List.map_cons, List.map_nil, List.cons_append, List.nil_append, Nat.reduceSub, Nat.reduceAdd, List.replicate_succ, List.replicate_zero, List.set_cons_zero, List.set_cons_succ, Nat.zero_add, Nat.sub_self, b_add, b_sub, b_ge, b_gt, b_le, b_lt, b_eq, b_ne, b_mul, b_fdiv, b_mod, u_abs, u_inti, u_intb, u_gcd, Bool.not_true, Bool.not_false, is_iI, is_iB, is_iL, is_iT, is_iLT, is_iBS, is_bI, is_bB, is_bLT, is_bBS, is_tL, is_tT, is_tLT, is_lL, is_lT, is_lLT, n_i, n_b, b_eqb, b_neb, i_sq, j_tup, j_lst, j_scr, i_zip, j_zip, j_zipT, j_zipL, u_tupleL, u_tupleT, deep_int, deep_bl, List.take_length, u_all2, w_upi, w_upb, w_upt, w_upl, u_len2, u_list2, k_t2, k_t3, m_l1, m_l2, m_l3, m_l4, m_l5, x_tup0, x_tup1, okMul_1, b_eqt, decide_true, decide_false, Bool.true_and, Bool.false_and, show decide ((1 : Int) = 0) = false from rfl, q]; exact back_TI' d s)
theorem toPs_ints : ∀ d : List Int, toPs (d.map D.int) = some (d.map PyData.int)
  | [] => rfl
  | i :: d => by
    rw [List.map_cons, toPs, toPs_ints d]
    rfl
theorem shaped_ints (d : List Int) : SeqAt.shaped (.tuple (d.map PyData.int)) = true := by
  have h1 : ∀ l : List Int, PyData.canLayAll0 (l.map PyData.int) = true := fun l => by
    induction l with
    | nil => rfl
    | cons i l ih => simp [PyData.canLayAll0, PyData.canLay0, ih]
  have h2 : ∀ l : List Int, PyData.depthAll (l.map PyData.int) = 0 := fun l => by
    induction l with
    | nil => rfl
    | cons i l ih => simp [PyData.depthAll, PyData.depth, ih]
  unfold SeqAt.shaped
  simp [PyData.canLay0, PyData.depth, h1, h2]
theorem eq_nil_ok (h : d ≠ []) : cmpD .eq (TI d) (.tup []) = some false := by
  show eqD (TI d) (.tup []) = some false
  unfold eqD
  simp only [toP, toPs_ints, toPs]
  rw [shaped_ints, show SeqAt.shaped (.tuple []) = true from shaped_ints []]
  cases d with
  | nil => exact absurd rfl h
  | cons i d => simp [PyData.eqv, PyData.eqvAll]
theorem cut_tail (xs : List D) : cut xs (some 1) none = xs.drop 1 := by
  unfold cut cutI
  simp only
  rw [if_neg (by decide)]
  cases xs with
  | nil => rfl
  | cons x xs => simp
theorem place_mod {N : Nat} (hp : 0 < N) (z : Int) : place N (z % (N : Int)) = some (z % (N : Int)).toNat := by
  have h1 := Int.emod_nonneg z (b := (N : Int)) (by omega)
  have h2 := Int.emod_lt_of_pos z (b := (N : Int)) (by omega)
  unfold place
  rw [if_pos h1, if_pos h2]
theorem get_ints (h : (z.toNat) < d.length) : (d.map D.int)[z.toNat]? = some (.int (d.getD z.toNat 0)) := by
  rw [List.getElem?_map, List.getElem?_eq_getElem h, List.getD_eq_getElem?_getD, List.getElem?_eq_getElem h]
  rfl
theorem led_ok (h : P[kl]? = some fLed) (hp : 0 < d.length) (hl : d.length ≤ 1000) : callF gl P (n + 1) kl [TI d, .int z] s = .ok (.int (ledI d z)) s := by
  rw [callF_at h rfl]
  have h1 := Int.emod_nonneg z (b := (d.length : Int)) (by omega)
  have h2 := Int.emod_lt_of_pos z (b := (d.length : Int)) (by omega)
  have e1 : ixD (TI d) (.int (z % (d.length : Int))) s = .ok (.int (d.getD (z % (d.length : Int)).toNat 0)) s := ix_tup _ _ (p := (z % (d.length : Int)).toNat) (by rw [List.length_map]; exact place_mod hp z) (get_ints (by omega))
  have e2 : okDiv (d.length : Int) = true := okDiv_by (by omega) (by omega)
  have e3 : okMul (z / d.length) (d.length : Int) = true := okMul_r (by omega) (by omega)
  have e4 : (0 : Int) < d.length := by omega
  simp only [fLed, w_bind, w_bindx, w_to, w_tox, w_quiet, w_sq, w_sqr, w_sqx, w_lp, w_lpr, w_vw, w_bw, w_fin, w_finx, k_b, k_c2, k_q2, w_or, k_c, k_ht, k_hf, k_h2, k_h, k_at, k_af, k_a, k_ot, k_of, k_o, k_n, k_T2, k_T, k_it, k_if, k_g, k_s, k_x, k_l3, k_l2, k_l, k_e2, k_e, k_as, k_u3, k_u2, k_u, k_set2, k_set, k_ret, k_ift, k_iff, k_wt, k_wf, e_cst, e_var, e_bin, e_neg, e_cmp, e_chain, e_and, e_or, e_not, e_ife, e_call, e_bi, e_isi, e_tup, e_lst, e_ix, e_sl, es_nil, es_cons, e_T, eA_one, eA_cons, eO_one, eO_cons, tr_bl, tr_int, a_nm, a_tup, a_sub, as_nil, as_cons, x_nil, x_cons, x_set, x_ife, x_ret, x_rais, List.getElem?_cons_zero, List.getElem?_cons_succ, List.length_cons, List.length_nil, List.map_cons, List.map_nil, List.cons_append, List.nil_append, Nat.reduceSub, Nat.reduceAdd, List.replicate_succ, List.replicate_zero, List.set_cons_zero, List.set_cons_succ, Nat.zero_add, Nat.sub_self, b_add, b_sub, b_ge, b_gt, b_le, b_lt, b_eq, b_ne, b_mul, b_fdiv, b_mod, u_abs, u_inti, u_intb, u_gcd, Bool.not_true, Bool.not_false, is_iI, is_iB, is_iL, is_iT, is_iLT, is_iBS, is_bI, is_bB, is_bLT, is_bBS, is_tL, is_tT, is_tLT, is_lL, is_lT, is_lLT, n_i, n_b, b_eqb, b_neb, i_sq, j_tup, j_lst, j_scr, i_zip, j_zip, j_zipT, j_zipL, u_tupleL, u_tupleT, deep_int, deep_bl, List.take_length, u_all2, w_upi, w_upb, w_upt, w_upl, u_len2, u_list2, k_t2, k_t3, m_l1, m_l2, m_l3, m_l4, m_l5, x_tup0, x_tup1, okMul_1, b_eqt, decide_true, decide_false, Bool.true_and, Bool.false_and, u_lenT, List.length_map, e1, e2, e3, e4]
  rfl
theorem zip_ints {a b : List Int} {x : D} (h : x ∈ zipD (a.map D.int) (b.map D.int)) : ∃ i, i < a.length ∧ i < b.length ∧ x = .tup [.int (a.getD i 0), .int (b.getD i 0)] := by
  obtain ⟨i, hi⟩ := List.mem_iff_getElem?.mp h
  obtain ⟨u, v, h1, h2, rfl⟩ := zipD_at hi
  rw [List.getElem?_map] at h1 h2
  cases ha : a[i]? with
  | none => rw [ha] at h1; cases h1
  | some p =>
    cases hb : b[i]? with
    | none => rw [hb] at h2; cases h2
    | some q =>
      rw [ha] at h1
      rw [hb] at h2
      cases h1
      cases h2
      exact ⟨i, (List.getElem?_eq_some_iff.mp ha).1, (List.getElem?_eq_some_iff.mp hb).1, by rw [List.getD_eq_getElem?_getD, List.getD_eq_getElem?_getD, ha, hb]; rfl⟩
/-- the numbers one place on -/
def nextI (d : List Int) : List Int := d.drop 1 ++ [d.getD 0 0 + d.length]
theorem next_le (W : Wh d) {i : Nat} (h : i < d.length) : d.getD i 0 ≤ (nextI d).getD i 0 := by
  unfold nextI
  rw [List.getD_eq_getElem?_getD (l := d.drop 1 ++ _)]
  by_cases hi : i + 1 < d.length
  · rw [List.getElem?_append_left (by rw [List.length_drop]; omega), List.getElem?_drop]
    have := W.asc i (1 + i) (by omega) (by omega)
    rw [List.getD_eq_getElem?_getD (i := 1 + i)] at this
    exact this
  · rw [List.getElem?_append_right (by rw [List.length_drop]; omega), List.length_drop]
    have e : i - (d.length - 1) = 0 := by omega
    rw [e]
    have e2 : i = d.length - 1 := by omega
    have := W.top
    rw [e2]
    exact this
theorem k_t0 (s : Sto) : Kt [] s = .ok (.tup []) s := rfl
theorem k_t1 (x : D) (s : Sto) : Kt [x] s = .ok (.tup [x]) s := rfl
theorem sl_tup (xs : List D) (lo hi : Option Int) (s : Sto) : slD (.tup xs) lo hi s = .ok (.tup (cut xs lo hi)) s := rfl
theorem b_tt {xs ys : List D} (h : xs.length + ys.length ≤ lim) (s : Sto) : binD .add (.tup xs) (.tup ys) s = .ok (.tup (xs ++ ys)) s := if_pos h
theorem isw_ok (h0 : P[kn]? = some fIsNum) (h1 : P[ka]? = some (fAre kn)) (h : P[ki]? = some (fIsWh ka)) (W : Wh d) (hl : d.length ≤ 1000) : callF gl P (n + 3) ki [TI d] s = .ok (.bl true) s := by
  rw [callF_at h rfl]
  have hp := W.pos
  have hlim : d.length ≤ lim := by unfold lim; omega
  have ne : d ≠ [] := by
    intro e
    rw [e] at hp
    cases hp
  have q0 := eq_nil_ok ne
  have q1 := are_ok (gl := gl) (n := n) (s := s) h0 h1 hlim
  have e1 : ixD (TI d) (.int 0) s = .ok (.int (d.getD 0 0)) s := ix_tup _ _ (p := 0) (by rw [List.length_map]; unfold place; rw [if_pos (by decide), if_pos (by omega)]; rfl) (get_ints (z := 0) hp)
  have e2 : binD .add (.tup ((d.map D.int).drop 1)) (.tup [.int (d.getD 0 0 + d.length)]) s = .ok (TI (nextI d)) s := by
    rw [b_tt (by rw [List.length_drop, List.length_map]; show _ + 1 ≤ lim; unfold lim; omega)]
    unfold nextI TI
    rw [List.map_append, List.map_drop]
    rfl
  have q2 := comp_val (cf := callF gl P (n + 2)) (gl := gl) (el := .cmp .le (.var 2) (.var 3)) (own := [2, 3]) (t := .tup [(.nm 2), (.nm 3)]) (it := .zip (.var 0) (.var 1)) (n := 59) (e := [some (TI d), some (TI (nextI d)), none, none]) (s := s) (xs := zipD (d.map D.int) ((nextI d).map D.int)) (g := fun _ => .bl true)
    (by simp only [w_bind, w_bindx, w_to, w_tox, w_quiet, w_sq, w_sqr, w_sqx, w_lp, w_lpr, w_vw, w_bw, w_fin, w_finx, k_b, k_c2, k_q2, w_or, k_c, k_ht, k_hf, k_h2, k_h, k_at, k_af, k_a, k_ot, k_of, k_o, k_n, k_T2, k_T, k_it, k_if, k_g, k_s, k_x, k_l3, k_l2, k_l, k_e2, k_e, k_as, k_u3, k_u2, k_u, k_set2, k_set, k_ret, k_ift, k_iff, k_wt, k_wf, e_cst, e_var, e_bin, e_neg, e_cmp, e_chain, e_and, e_or, e_not, e_ife, e_call, e_bi, e_isi, e_tup, e_lst, e_ix, e_sl, es_nil, es_cons, e_T, eA_one, eA_cons, eO_one, eO_cons, tr_bl, tr_int, a_nm, a_tup, a_sub, as_nil, as_cons, x_nil, x_cons, x_set, x_ife, x_ret, x_rais, List.getElem?_cons_zero, List.getElem?_cons_succ, List.length_cons, List.length_nil, List.map_cons, List.map_nil, List.cons_append, List.nil_append, Nat.reduceSub, Nat.reduceAdd, List.replicate_succ, List.replicate_zero, List.set_cons_zero, List.set_cons_succ, Nat.zero_add, Nat.sub_self, b_add, b_sub, b_ge, b_gt, b_le, b_lt, b_eq, b_ne, b_mul, b_fdiv, b_mod, u_abs, u_inti, u_intb, u_gcd, Bool.not_true, Bool.not_false, is_iI, is_iB, is_iL, is_iT, is_iLT, is_iBS, is_bI, is_bB, is_bLT, is_bBS, is_tL, is_tT, is_tLT, is_lL, is_lT, is_lLT, n_i, n_b, b_eqb, b_neb, i_sq, j_tup, j_lst, j_scr, i_zip, j_zip, j_zipT, j_zipL, u_tupleL, u_tupleT, deep_int, deep_bl, List.take_length, u_all2, w_upi, w_upb, w_upt, w_upl, u_len2, u_list2, k_t2, k_t3, m_l1, m_l2, m_l3, m_l4, m_l5, x_tup0, x_tup1, okMul_1, b_eqt, decide_true, decide_false, Bool.true_and, Bool.false_and]) (by rw [zipD_len, List.length_map]; exact Nat.le_trans (Nat.min_le_left _ _) hlim) (fun x hx s1 => by
      obtain ⟨i, h1, _, rfl⟩ := zip_ints hx
      have := next_le W h1
      refine ⟨[some (TI d), some (TI (nextI d)), some (.int (d.getD i 0)), some (.int ((nextI d).getD i 0))], rfl, ?_, rfl⟩
      simp only [w_bind, w_bindx, w_to, w_tox, w_quiet, w_sq, w_sqr, w_sqx, w_lp, w_lpr, w_vw, w_bw, w_fin, w_finx, k_b, k_c2, k_q2, w_or, k_c, k_ht, k_hf, k_h2, k_h, k_at, k_af, k_a, k_ot, k_of, k_o, k_n, k_T2, k_T, k_it, k_if, k_g, k_s, k_x, k_l3, k_l2, k_l, k_e2, k_e, k_as, k_u3, k_u2, k_u, k_set2, k_set, k_ret, k_ift, k_iff, k_wt, k_wf, e_cst, e_var, e_bin, e_neg, e_cmp, e_chain, e_and, e_or, e_not, e_ife, e_call, e_bi, e_isi, e_tup, e_lst, e_ix, e_sl, es_nil, es_cons, e_T, eA_one, eA_cons, eO_one, eO_cons, tr_bl, tr_int, a_nm, a_tup, a_sub, as_nil, as_cons, x_nil, x_cons, x_set, x_ife, x_ret, x_rais, List.getElem?_cons_zero, List.getElem?_cons_succ, List.length_cons, List.length_nil, List.map_cons, List.map_nil, List.cons_append, List.nil_append, Nat.reduceSub, Nat.reduceAdd, List.replicate_succ, List.replicate_zero, List.set_cons_zero, List.set_cons_succ, Nat.zero_add, Nat.sub_self, b_add, b_sub, b_ge, b_gt, b_le, b_lt, b_eq, b_ne, b_mul, b_fdiv, b_mod, u_abs, u_inti, u_intb, u_gcd, Bool.not_true, Bool.not_false, is_iI, is_iB, is_iL, is_iT, is_iLT, is_iBS, is_bI, is_bB, is_bLT, is_bBS, is_tL, is_tT, is_tLT, is_lL, is_lT, is_lLT, n_i, n_b, b_eqb, b_neb, i_sq, j_tup, j_lst, j_scr, i_zip, j_zip, j_zipT, j_zipL, u_tupleL, u_tupleT, deep_int, deep_bl, List.take_length, u_all2, w_upi, w_upb, w_upt, w_upl, u_len2, u_list2, k_t2, k_t3, m_l1, m_l2, m_l3, m_l4, m_l5, x_tup0, x_tup1, okMul_1, b_eqt, decide_true, decide_false, Bool.true_and, Bool.false_and, decide_eq_true this])
  simp only [Nat.reduceAdd] at q1 q2
  simp only [fIsWh, w_bind, w_bindx, w_to, w_tox, w_quiet, w_sq, w_sqr, w_sqx, w_lp, w_lpr, w_vw, w_bw, w_fin, w_finx, k_b, k_c2, k_q2, w_or, k_c, k_ht, k_hf, k_h2, k_h, k_at, k_af, k_a, k_ot, k_of, k_o, k_n, k_T2, k_T, k_it, k_if, k_g, k_s, k_x, k_l3, k_l2, k_l, k_e2, k_e, k_as, k_u3, k_u2, k_u, k_set2, k_set, k_ret, k_ift, k_iff, k_wt, k_wf, e_cst, e_var, e_bin, e_neg, e_cmp, e_chain, e_and, e_or, e_not, e_ife, e_call, e_bi, e_isi, e_tup, e_lst, e_ix, e_sl, es_nil, es_cons, e_T, eA_one, eA_cons, eO_one, eO_cons, tr_bl, tr_int, a_nm, a_tup, a_sub, as_nil, as_cons, x_nil, x_cons, x_set, x_ife, x_ret, x_rais, List.getElem?_cons_zero, List.getElem?_cons_succ, List.length_cons, List.length_nil, List.map_cons, List.map_nil, List.cons_append, List.nil_append, Nat.reduceSub, Nat.reduceAdd, List.replicate_succ, List.replicate_zero, List.set_cons_zero, List.set_cons_succ, Nat.zero_add, Nat.sub_self, b_add, b_sub, b_ge, b_gt, b_le, b_lt, b_eq, b_ne, b_mul, b_fdiv, b_mod, u_abs, u_inti, u_intb, u_gcd, Bool.not_true, Bool.not_false, is_iI, is_iB, is_iL, is_iT, is_iLT, is_iBS, is_bI, is_bB, is_bLT, is_bBS, is_tL, is_tT, is_tLT, is_lL, is_lT, is_lLT, n_i, n_b, b_eqb, b_neb, i_sq, j_tup, j_lst, j_scr, i_zip, j_zip, j_zipT, j_zipL, u_tupleL, u_tupleT, deep_int, deep_bl, List.take_length, u_all2, w_upi, w_upb, w_upt, w_upl, u_len2, u_list2, k_t2, k_t3, m_l1, m_l2, m_l3, m_l4, m_l5, x_tup0, x_tup1, okMul_1, b_eqt, decide_true, decide_false, Bool.true_and, Bool.false_and, k_t0, k_t1, q0, q1, sl_tup, cut_tail, e1, u_lenT, List.length_map, e2, q2, all_true, o_none, o_some, j_o]
theorem asw_ok (H : HasW P kn ka kw ki ks kl) (W : Wh d) {x : D} (hx : TL x d) (hl : d.length ≤ 1000) : callF gl P (n + 4) ks [x] s = .ok (TI d) s := by
  rw [callF_at H.hs rfl]
  have hlim : d.length ≤ lim := by unfold lim; omega
  have q1 := with_ok (gl := gl) (n := n + 1) (s := s) H.hw hx hlim
  have q2 := isw_ok (gl := gl) (n := n) (s := s) H.hn H.ha H.hi W hl
  simp only [Nat.add_assoc, Nat.reduceAdd] at q1 q2
  simp only [fAsWh, w_bind, w_bindx, w_to, w_tox, w_quiet, w_sq, w_sqr, w_sqx, w_lp, w_lpr, w_vw, w_bw, w_fin, w_finx, k_b, k_c2, k_q2, w_or, k_c, k_ht, k_hf, k_h2, k_h, k_at, k_af, k_a, k_ot, k_of, k_o, k_n, k_T2, k_T, k_it, k_if, k_g, k_s, k_x, k_l3, k_l2, k_l, k_e2, k_e, k_as, k_u3, k_u2, k_u, k_set2, k_set, k_ret, k_ift, k_iff, k_wt, k_wf, e_cst, e_var, e_bin, e_neg, e_cmp, e_chain, e_and, e_or, e_not, e_ife, e_call, e_bi, e_isi, e_tup, e_lst, e_ix, e_sl, es_nil, es_cons, e_T, eA_one, eA_cons, eO_one, eO_cons, tr_bl, tr_int, a_nm, a_tup, a_sub, as_nil, as_cons, x_nil, x_cons, x_set, x_ife, x_ret, x_rais, List.getElem?_cons_zero, List.getElem?_cons_succ, List.length_cons, List.length_nil, List.map_cons, List.map_nil, List.cons_append, List.nil_append, Nat.reduceSub, Nat.reduceAdd, List.replicate_succ, List.replicate_zero, List.set_cons_zero, List.set_cons_succ, Nat.zero_add, Nat.sub_self, b_add, b_sub, b_ge, b_gt, b_le, b_lt, b_eq, b_ne, b_mul, b_fdiv, b_mod, u_abs, u_inti, u_intb, u_gcd, Bool.not_true, Bool.not_false, is_iI, is_iB, is_iL, is_iT, is_iLT, is_iBS, is_bI, is_bB, is_bLT, is_bBS, is_tL, is_tT, is_tLT, is_lL, is_lT, is_lLT, n_i, n_b, b_eqb, b_neb, i_sq, j_tup, j_lst, j_scr, i_zip, j_zip, j_zipT, j_zipL, u_tupleL, u_tupleT, deep_int, deep_bl, List.take_length, u_all2, w_upi, w_upb, w_upt, w_upl, u_len2, u_list2, k_t2, k_t3, m_l1, m_l2, m_l3, m_l4, m_l5, x_tup0, x_tup1, okMul_1, b_eqt, decide_true, decide_false, Bool.true_and, Bool.false_and, q1, q2]
  exact back_TI' d s
end
end Bw

set_option linter.all false
set_option maxRecDepth 100000
set_option maxHeartbeats 1000000
/-! Bw: drawn wheels -/
namespace Bw
open PySem
section
variable {f : Ev} {el : C} {t : T} {rho : En} {n ix : Nat}
/-- a comprehension whose turns change the store -/
theorem comp_inv {I : Nat → Sto → Prop} {Y : D → Prop} (hs : ∀ j S a, I j S → I j (S.set ix (.lst true a))) : ∀ (xs acc : List D) (k j : Nat) (S : Sto), S[ix]? = some (.lst true acc) → I j S → acc.length + xs.length ≤ lim →
    (∀ x ∈ xs, ∀ j', j' < j + xs.length → ∀ S a, S[ix]? = some (.lst true a) → I j' S → ∃ e1 y S', asg f t x rho S = .ok e1 S ∧ f el e1 S = .ok y S' ∧ clean y = true ∧ Y y ∧ S'[ix]? = some (.lst true a) ∧ I (j' + 1) S') →
    ∃ ys S', ys.length = xs.length ∧ (∀ y ∈ ys, Y y) ∧ evComp f ix el t none rho none n k xs S = .ok () S' ∧ S'[ix]? = some (.lst true (acc ++ ys)) ∧ I (j + xs.length) S'
  | [], acc, k, j, S, h0, hI, hl, h => ⟨[], S, rfl, (fun y hy => by cases hy), rfl, (by rw [List.append_nil]; exact h0), hI⟩
  | x :: xs, acc, k, j, S, h0, hI, hl, h => by
    obtain ⟨e1, y, S1, a1, a2, a3, a4, a5, a6⟩ := h x (List.mem_cons_self ..) j (by rw [List.length_cons]; omega) S acc h0 hI
    have hl : acc.length + (xs.length + 1) ≤ lim := hl
    have hp : push S1 ix y = some (S1.set ix (.lst true (acc ++ [y]))) := by
      unfold push
      rw [a5]
      simp only [a3, Bool.true_and]
      rw [if_pos (decide_eq_true (by omega))]
    have hlt : ix < S1.length := (List.getElem?_eq_some_iff.mp a5).1
    obtain ⟨ys, S2, b1, b2, b3, b4, b5⟩ := comp_inv hs xs (acc ++ [y]) (k + 1) (j + 1) (S1.set ix (.lst true (acc ++ [y]))) (List.getElem?_set_self hlt) (hs _ _ _ a6) (by rw [List.length_append, List.length_singleton]; omega) (fun z hz j' hj' => h z (List.mem_cons_of_mem _ hz) j' (by rw [List.length_cons]; omega))
    refine ⟨y :: ys, S2, by simp [b1], fun z hz => ?_, ?_, by rw [b4, List.append_assoc]; rfl, by rw [List.length_cons, show j + (xs.length + 1) = j + 1 + xs.length by omega]; exact b5⟩
    · rcases List.mem_cons.mp hz with rfl | hz
      · exact a4
      · exact b2 z hz
    · have e2 : evComp f ix el t none rho none n k (x :: xs) S = (match push S1 ix y with
          | some s4 => evComp f ix el t none rho none n (k + 1) xs s4
          | none => .fail) := by
        show (quiet (asg f t x rho S)).bind _ = _
        rw [a1]
        show R.bind (f el e1 S) _ = _
        rw [a2]
        rfl
      rw [e2, hp]
      exact b3
/-- a comprehension over a list of the store, without a condition -/
theorem comp_mapR {s : Sto} {g : D → D} {i : Nat} {lk : Bool} {all : List D} (hi : s[i]? = some (.lst lk all)) : ∀ (xs acc : List D) (k : Nat), acc.length + xs.length ≤ lim → all.drop k = xs →
    (∀ x ∈ xs, beqD x x = true) →
    (∀ x ∈ xs, ∀ s1 : Sto, s1[i]? = some (.lst lk all) → ∃ e1, asg f t x rho s1 = .ok e1 s1 ∧ f el e1 s1 = .ok (g x) s1 ∧ clean (g x) = true) →
    evComp f s.length el t none rho (some (i, .bk false)) all.length k xs (s ++ [.lst true acc]) = .ok () (s ++ [.lst true (acc ++ xs.map g)])
  | [], acc, k, _, _, _, _ => by
    have hlt : i < s.length := (List.getElem?_eq_some_iff.mp hi).1
    have c : chk (some (i, .bk false)) all.length k none (s ++ [SO.lst true acc]) = true := by
      simp only [chk, List.getElem?_append_left hlt, hi, decide_true, Bool.and_self]
    rw [List.map_nil, List.append_nil]
    exact if_pos c
  | x :: xs, acc, k, hl, hd, hb, h => by
    have hlt : i < s.length := (List.getElem?_eq_some_iff.mp hi).1
    have hi2 : (s ++ [SO.lst true acc])[i]? = some (.lst lk all) := by rw [List.getElem?_append_left hlt]; exact hi
    have hk : all[k]? = some x := by
      have : (all.drop k)[0]? = some x := by rw [hd]; rfl
      rw [List.getElem?_drop] at this
      simpa using this
    have c : chk (some (i, .bk false)) all.length k (some x) (s ++ [SO.lst true acc]) = true := by
      simp only [chk, hi2, Bool.false_eq_true, if_false, hk, decide_true, Bool.true_and]
      exact hb x (List.mem_cons_self ..)
    obtain ⟨e1, h1, h2, h3⟩ := h x (List.mem_cons_self ..) (s ++ [.lst true acc]) hi2
    have hl : acc.length + (xs.length + 1) ≤ lim := hl
    have hp : push (s ++ [.lst true acc]) s.length (g x) = some (s ++ [.lst true (acc ++ [g x])]) := by
      unfold push
      have e0 : (s ++ [SO.lst true acc])[s.length]? = some (SO.lst true acc) := by simp
      rw [e0]
      simp only [h3, Bool.true_and]
      rw [if_pos (decide_eq_true (by omega))]
      simp
    have e2 : evComp f s.length el t none rho (some (i, .bk false)) all.length k (x :: xs) (s ++ [.lst true acc]) = (match push (s ++ [.lst true acc]) s.length (g x) with
        | some s4 => evComp f s.length el t none rho (some (i, .bk false)) all.length (k + 1) xs s4
        | none => .fail) := by
      refine (if_pos c).trans ?_
      rw [h1]
      show R.bind (f el e1 (s ++ [.lst true acc])) _ = _
      rw [h2]
      rfl
    rw [e2, hp]
    simp only
    have := comp_mapR (g := g) hi xs (acc ++ [g x]) (k + 1) (by rw [List.length_append, List.length_singleton]; omega) (by rw [← List.drop_drop, hd]; rfl) (fun y hy => hb y (List.mem_cons_of_mem _ hy)) (fun y hy => h y (List.mem_cons_of_mem _ hy))
    rw [this, List.append_assoc]
    rfl
def Jrg (r : Option (List D)) (s : Sto) : R (Src × List D) := match r with
  | some xs => .ok (none, xs) s
  | none => .fail
def Jrg1 (x : D) (s : Sto) : R (Src × List D) := match x with
  | .int i => Jrg (rangeD 0 i) s
  | _ => .fail
theorem i_rg1 (a : C) (e : En) (s : Sto) : evIt f (.rg1 a) e s = (f a e s).bind Jrg1 := by
  show R.bind _ _ = R.bind _ _
  congr 1
theorem rangeD_if (a b : Int) : rangeD a b = if decide (-(2 ^ 62) ≤ a ∧ a < 2 ^ 62 ∧ -(2 ^ 62) ≤ b ∧ b < 2 ^ 62) = true then some ((List.range (b - a).toNat).map fun i => D.int (a + (i : Nat))) else none := rfl
theorem rangeD_ok {N : Nat} (hN : N ≤ 1000000) : rangeD 0 (N : Int) = some ((List.range N).map fun i => D.int ((i : Nat) : Int)) := by
  have e1 : ((N : Int) - 0).toNat = N := by omega
  have e2 : (fun i : Nat => D.int (0 + (i : Int))) = fun i : Nat => D.int (i : Int) := by
    funext i
    rw [Int.zero_add]
  have c : decide (-(2 ^ 62) ≤ (0 : Int) ∧ (0 : Int) < 2 ^ 62 ∧ -(2 ^ 62) ≤ (N : Int) ∧ (N : Int) < 2 ^ 62) = true := decide_eq_true (by omega)
  rw [rangeD_if, e1, e2]
  exact if_pos c
/-- range(N) -/
theorem rg1_ok {a : C} {e : En} {s s1 : Sto} {N : Nat} (h : f a e s = .ok (.int (N : Nat)) s1) (hN : N ≤ 1000000) : evIt f (.rg1 a) e s = .ok (none, (List.range N).map fun i => D.int ((i : Nat) : Int)) s1 := by
  rw [i_rg1, h, w_bind]
  unfold Jrg1
  simp only
  rw [rangeD_ok hN]
  rfl
end
def fShift : F := ⟨"_law_shift", ["ring_so", "m"], ["ring_so", "m", "k"], [
  (.ret (.bi .tuple [(.comp false (.bin .add (.var 2) (.var 1)) [2] (.nm 2) (.rg1 (.var 0)) none)]))], 61, 100000⟩
def shI (N : Nat) (m : Int) : List Int := (List.range N).map fun i : Nat => ((i : Nat) : Int) + m
theorem shI_len (N : Nat) (m : Int) : (shI N m).length = N := by simp [shI]
theorem shI_at {N i : Nat} {m : Int} (h : i < N) : (shI N m).getD i 0 = i + m := by
  rw [List.getD_eq_getElem?_getD]
  unfold shI
  rw [List.getElem?_map, List.getElem?_range h]
  rfl
theorem shI_wh {N : Nat} {m : Int} (h : 0 < N) : Wh (shI N m) where
  pos := by rw [shI_len]; exact h
  asc := fun i j hij hj => by
    rw [shI_len] at hj
    rw [shI_at (by omega), shI_at hj]
    omega
  top := by
    rw [shI_len, shI_at (by omega), shI_at h]
    omega
section
variable {gl : PySem.Str → Option D} {P : List F} {k kt n N : Nat} {s : Sto} {m : Int}
def gSh (m : Int) : D → D
  | .int i => .int (i + m)
  | d => d
theorem gSh_int (m i : Int) : gSh m (.int i) = .int (i + m) := rfl
theorem gSh_map (N : Nat) (m : Int) : ((List.range N).map fun i : Nat => D.int (i : Int)).map (gSh m) = (shI N m).map D.int := by
  unfold shI
  rw [List.map_map, List.map_map]
  apply List.map_congr_left
  intro i _
  exact gSh_int m i
/-- numbers drawn one by one, each from a start on -/
theorem comp_draw {cf : CF} {r M : Nat} {w st : Int} {x4 x5 x6 x7 x8 x9 : Option D} (T : Tin r M s) (hM : M + N < 1000000) (hN : N ≤ 1000)
    (tk : ∀ (S : Sto) (m : Nat), Tin r m S → m < 1000000 → ∃ (k : Int) (S' : Sto), cf kt [.ref r, .int w] S = .ok (.int k) S' ∧ 0 ≤ k ∧ k < w ∧ Tin r (m + 1) S' ∧ S'.length = S.length ∧ ∀ q, q ≠ r → S'[q]? = S[q]?) :
    ∃ (l : List Int) (s' : Sto), evE cf gl 59 (.comp false (.bin .add (.var 3) (.call kt [(.var 0), (.var 2)])) [9] (.nm 9) (.rg1 (.var 1)) none) [some (.ref r), some (.int (N : Nat)), some (.int w), some (.int st), x4, x5, x6, x7, x8, x9] s = .ok (.lst (l.map D.int)) s' ∧
      l.length = N ∧ (∀ x ∈ l, st ≤ x ∧ x < st + w) ∧ Tin r (M + N) s' ∧ s'.length = s.length ∧ ∀ q, q ≠ r → s'[q]? = s[q]? := by
  have hr := T.lt
  have hi : evIt (evE cf gl 58) (.rg1 (.var 1)) [some (.ref r), some (.int (N : Nat)), some (.int w), some (.int st), x4, x5, x6, x7, x8, x9] s = .ok (none, (List.range N).map fun i => D.int ((i : Nat) : Int)) s := rg1_ok (by simp only [w_bind, w_bindx, w_to, w_tox, w_quiet, w_sq, w_sqr, w_sqx, w_lp, w_lpr, w_vw, w_bw, w_fin, w_finx, k_b, k_c2, k_q2, w_or, k_c, k_ht, k_hf, k_h2, k_h, k_at, k_af, k_a, k_ot, k_of, k_o, k_n, k_T2, k_T, k_it, k_if, k_g, k_s, k_x, k_l3, k_l2, k_l, k_e2, k_e, k_as, k_u3, k_u2, k_u, k_set2, k_set, k_ret, k_ift, k_iff, k_wt, k_wf, e_cst, e_var, e_bin, e_neg, e_cmp, e_chain, e_and, e_or, e_not, e_ife, e_call, e_bi, e_isi, e_tup, e_lst, e_ix, e_sl, es_nil, es_cons, e_T, eA_one, eA_cons, eO_one, eO_cons, tr_bl, tr_int, a_nm, a_tup, a_sub, as_nil, as_cons, x_nil, x_cons, x_set, x_ife, x_ret, x_rais, List.getElem?_cons_zero, List.getElem?_cons_succ, List.length_cons, List.length_nil, List.map_cons, List.map_nil, List.cons_append, List.nil_append, Nat.reduceSub, Nat.reduceAdd, List.replicate_succ, List.replicate_zero, List.set_cons_zero, List.set_cons_succ, Nat.zero_add, Nat.sub_self, b_add, b_sub, b_ge, b_gt, b_le, b_lt, b_eq, b_ne, b_mul, b_fdiv, b_mod, u_abs, u_inti, u_intb, u_gcd, Bool.not_true, Bool.not_false, is_iI, is_iB, is_iL, is_iT, is_iLT, is_iBS, is_bI, is_bB, is_bLT, is_bBS, is_tL, is_tT, is_tLT, is_lL, is_lT, is_lLT, n_i, n_b, b_eqb, b_neb, i_sq, j_tup, j_lst, j_scr, i_zip, j_zip, j_zipT, j_zipL, u_tupleL, u_tupleT, deep_int, deep_bl, List.take_length, u_all2, w_upi, w_upb, w_upt, w_upl, u_len2, u_list2, k_t2, k_t3, m_l1, m_l2, m_l3, m_l4, m_l5, x_tup0, x_tup1, okMul_1, b_eqt, decide_true, decide_false, Bool.true_and, Bool.false_and]) (by omega)
  obtain ⟨ys, S', c1, c2, c3, c4, c5⟩ := comp_inv (f := evE cf gl 58) (el := .bin .add (.var 3) (.call kt [(.var 0), (.var 2)])) (t := .nm 9) (rho := [some (.ref r), some (.int (N : Nat)), some (.int w), some (.int st), x4, x5, x6, x7, x8, none]) (n := ((List.range N).map fun i => D.int ((i : Nat) : Int)).length) (ix := s.length)
    (I := fun j S => Tin r (M + j) S ∧ S.length = s.length + 1 ∧ ∀ q, q < s.length → q ≠ r → S[q]? = s[q]?) (Y := fun y => ∃ x, y = .int x ∧ st ≤ x ∧ x < st + w)
    (fun j S a ⟨h1, h2, h3⟩ => ⟨h1.mono (by rw [List.getElem?_set_ne (by omega)]), by rw [List.length_set]; exact h2, fun q hq hn => by rw [List.getElem?_set_ne (by omega)]; exact h3 q hq hn⟩)
    ((List.range N).map fun i => D.int ((i : Nat) : Int)) [] 0 0 (s ++ [.lst true []]) (by simp) ⟨by
      rw [Nat.add_zero]
      exact T.mono (by rw [List.getElem?_append_left hr]), by simp, fun q hq _ => by rw [List.getElem?_append_left hq]⟩ (by simp only [List.length_nil, List.length_map, List.length_range]; unfold lim; omega)
    (fun x hx j hj S a h0 ⟨h1, h2, h3⟩ => by
      rw [List.length_map, List.length_range] at hj
      obtain ⟨i, _, rfl⟩ := List.mem_map.mp hx
      obtain ⟨k, S1, t1, t2, t3, t4, t5, t6⟩ := tk S (M + j) h1 (by omega)
      refine ⟨_, .int (st + k), S1, a_nm _ _ _ _ _, by simp only [w_bind, w_bindx, w_to, w_tox, w_quiet, w_sq, w_sqr, w_sqx, w_lp, w_lpr, w_vw, w_bw, w_fin, w_finx, k_b, k_c2, k_q2, w_or, k_c, k_ht, k_hf, k_h2, k_h, k_at, k_af, k_a, k_ot, k_of, k_o, k_n, k_T2, k_T, k_it, k_if, k_g, k_s, k_x, k_l3, k_l2, k_l, k_e2, k_e, k_as, k_u3, k_u2, k_u, k_set2, k_set, k_ret, k_ift, k_iff, k_wt, k_wf, e_cst, e_var, e_bin, e_neg, e_cmp, e_chain, e_and, e_or, e_not, e_ife, e_call, e_bi, e_isi, e_tup, e_lst, e_ix, e_sl, es_nil, es_cons, e_T, eA_one, eA_cons, eO_one, eO_cons, tr_bl, tr_int, a_nm, a_tup, a_sub, as_nil, as_cons, x_nil, x_cons, x_set, x_ife, x_ret, x_rais, List.getElem?_cons_zero, List.getElem?_cons_succ, List.length_cons, List.length_nil, List.map_cons, List.map_nil, List.cons_append, List.nil_append, Nat.reduceSub, Nat.reduceAdd, List.replicate_succ, List.replicate_zero, List.set_cons_zero, List.set_cons_succ, Nat.zero_add, Nat.sub_self, b_add, b_sub, b_ge, b_gt, b_le, b_lt, b_eq, b_ne, b_mul, b_fdiv, b_mod, u_abs, u_inti, u_intb, u_gcd, Bool.not_true, Bool.not_false, is_iI, is_iB, is_iL, is_iT, is_iLT, is_iBS, is_bI, is_bB, is_bLT, is_bBS, is_tL, is_tT, is_tLT, is_lL, is_lT, is_lLT, n_i, n_b, b_eqb, b_neb, i_sq, j_tup, j_lst, j_scr, i_zip, j_zip, j_zipT, j_zipL, u_tupleL, u_tupleT, deep_int, deep_bl, List.take_length, u_all2, w_upi, w_upb, w_upt, w_upl, u_len2, u_list2, k_t2, k_t3, m_l1, m_l2, m_l3, m_l4, m_l5, x_tup0, x_tup1, okMul_1, b_eqt, decide_true, decide_false, Bool.true_and, Bool.false_and, t1], rfl, ⟨_, rfl, by omega, by omega⟩, ?_, t4, by omega, fun q hq hn => by rw [t6 q hn]; exact h3 q hq hn⟩
      rw [t6 s.length (by omega)]
      exact h0)
  rw [List.length_map, List.length_range] at c1
  have hy : ∃ l : List Int, ys = l.map D.int ∧ ∀ x ∈ l, st ≤ x ∧ x < st + w := by
    clear c1 c3 c4
    induction ys with
    | nil => exact ⟨[], rfl, fun x hx => by cases hx⟩
    | cons y ys ih =>
      obtain ⟨x, rfl, hx⟩ := c2 y (List.mem_cons_self ..)
      obtain ⟨l, e, hl⟩ := ih fun z hz => c2 z (List.mem_cons_of_mem _ hz)
      refine ⟨x :: l, by rw [e]; rfl, fun z hz => ?_⟩
      rcases List.mem_cons.mp hz with rfl | hz
      · exact hx
      · exact hl z hz
  obtain ⟨l, rfl, hl⟩ := hy
  rw [List.length_map, List.length_range, Nat.zero_add] at c5
  refine ⟨l, S'.take s.length, ?_, by simpa using c1, hl, c5.1.mono (by rw [List.getElem?_take, if_pos hr]), by rw [List.length_take, c5.2.1]; omega, fun q hn => ?_⟩
  · rw [e_comp, hi, w_bind, k_m]
    simp only [wipeE, List.set_cons_succ, List.set_cons_zero]
    rw [c3, w_quiet, w_bind, k_m2, c4, List.nil_append, k_m3f]
  · rw [List.getElem?_take]
    split
    · rename_i hq
      exact c5.2.2 q hq hn
    · rename_i hq
      rw [List.getElem?_eq_none (by omega)]
end
end Bw

set_option linter.all false
set_option maxRecDepth 100000
set_option maxHeartbeats 1000000
namespace Bw
open PySem
section
variable {gl : PySem.Str → Option D} {P : List F} {k kt n N : Nat} {s : Sto} {m : Int} {cf : CF}
theorem shift_c (hN : N ≤ lim) (hN2 : N ≤ 1000000) : evE cf gl 60 (.comp false (.bin .add (.var 2) (.var 1)) [2] (.nm 2) (.rg1 (.var 0)) none) [some (.int (N : Nat)), some (.int m), none] s = .ok (.lst ((shI N m).map D.int)) s := by
  have hi : evIt (evE cf gl 59) (.rg1 (.var 0)) [some (.int (N : Nat)), some (.int m), none] s = .ok (none, (List.range N).map fun i => D.int ((i : Nat) : Int)) s := rg1_ok (by simp only [w_bind, w_bindx, w_to, w_tox, w_quiet, w_sq, w_sqr, w_sqx, w_lp, w_lpr, w_vw, w_bw, w_fin, w_finx, k_b, k_c2, k_q2, w_or, k_c, k_ht, k_hf, k_h2, k_h, k_at, k_af, k_a, k_ot, k_of, k_o, k_n, k_T2, k_T, k_it, k_if, k_g, k_s, k_x, k_l3, k_l2, k_l, k_e2, k_e, k_as, k_u3, k_u2, k_u, k_set2, k_set, k_ret, k_ift, k_iff, k_wt, k_wf, e_cst, e_var, e_bin, e_neg, e_cmp, e_chain, e_and, e_or, e_not, e_ife, e_call, e_bi, e_isi, e_tup, e_lst, e_ix, e_sl, es_nil, es_cons, e_T, eA_one, eA_cons, eO_one, eO_cons, tr_bl, tr_int, a_nm, a_tup, a_sub, as_nil, as_cons, x_nil, x_cons, x_set, x_ife, x_ret, x_rais, List.getElem?_cons_zero, List.getElem?_cons_succ, List.length_cons, List.length_nil, List.map_cons, List.map_nil, List.cons_append, List.nil_append, Nat.reduceSub, Nat.reduceAdd, List.replicate_succ, List.replicate_zero, List.set_cons_zero, List.set_cons_succ, Nat.zero_add, Nat.sub_self, b_add, b_sub, b_ge, b_gt, b_le, b_lt, b_eq, b_ne, b_mul, b_fdiv, b_mod, u_abs, u_inti, u_intb, u_gcd, Bool.not_true, Bool.not_false, is_iI, is_iB, is_iL, is_iT, is_iLT, is_iBS, is_bI, is_bB, is_bLT, is_bBS, is_tL, is_tT, is_tLT, is_lL, is_lT, is_lLT, n_i, n_b, b_eqb, b_neb, i_sq, j_tup, j_lst, j_scr, i_zip, j_zip, j_zipT, j_zipL, u_tupleL, u_tupleT, deep_int, deep_bl, List.take_length, u_all2, w_upi, w_upb, w_upt, w_upl, u_len2, u_list2, k_t2, k_t3, m_l1, m_l2, m_l3, m_l4, m_l5, x_tup0, x_tup1, okMul_1, b_eqt, decide_true, decide_false, Bool.true_and, Bool.false_and]) hN2
  have q := comp_val (cf := cf) (gl := gl) (el := .bin .add (.var 2) (.var 1)) (own := [2]) (t := .nm 2) (it := .rg1 (.var 0)) (n := 59) (g := gSh m) hi (by rw [List.length_map, List.length_range]; exact hN) (fun x hx s1 => by
      obtain ⟨i, _, rfl⟩ := List.mem_map.mp hx
      refine ⟨_, a_nm _ _ _ _ _, ?_, by rw [gSh_int]; rfl⟩
      rw [gSh_int]
      simp only [wipeE, w_bind, w_bindx, w_to, w_tox, w_quiet, w_sq, w_sqr, w_sqx, w_lp, w_lpr, w_vw, w_bw, w_fin, w_finx, k_b, k_c2, k_q2, w_or, k_c, k_ht, k_hf, k_h2, k_h, k_at, k_af, k_a, k_ot, k_of, k_o, k_n, k_T2, k_T, k_it, k_if, k_g, k_s, k_x, k_l3, k_l2, k_l, k_e2, k_e, k_as, k_u3, k_u2, k_u, k_set2, k_set, k_ret, k_ift, k_iff, k_wt, k_wf, e_cst, e_var, e_bin, e_neg, e_cmp, e_chain, e_and, e_or, e_not, e_ife, e_call, e_bi, e_isi, e_tup, e_lst, e_ix, e_sl, es_nil, es_cons, e_T, eA_one, eA_cons, eO_one, eO_cons, tr_bl, tr_int, a_nm, a_tup, a_sub, as_nil, as_cons, x_nil, x_cons, x_set, x_ife, x_ret, x_rais, List.getElem?_cons_zero, List.getElem?_cons_succ, List.length_cons, List.length_nil, List.map_cons, List.map_nil, List.cons_append, List.nil_append, Nat.reduceSub, Nat.reduceAdd, List.replicate_succ, List.replicate_zero, List.set_cons_zero, List.set_cons_succ, Nat.zero_add, Nat.sub_self, b_add, b_sub, b_ge, b_gt, b_le, b_lt, b_eq, b_ne, b_mul, b_fdiv, b_mod, u_abs, u_inti, u_intb, u_gcd, Bool.not_true, Bool.not_false, is_iI, is_iB, is_iL, is_iT, is_iLT, is_iBS, is_bI, is_bB, is_bLT, is_bBS, is_tL, is_tT, is_tLT, is_lL, is_lT, is_lLT, n_i, n_b, b_eqb, b_neb, i_sq, j_tup, j_lst, j_scr, i_zip, j_zip, j_zipT, j_zipL, u_tupleL, u_tupleT, deep_int, deep_bl, List.take_length, u_all2, w_upi, w_upb, w_upt, w_upl, u_len2, u_list2, k_t2, k_t3, m_l1, m_l2, m_l3, m_l4, m_l5, x_tup0, x_tup1, okMul_1, b_eqt, decide_true, decide_false, Bool.true_and, Bool.false_and])
  rw [gSh_map] at q
  exact q
theorem shift_b (a b : D) (q : evE cf gl 60 (.comp false (.bin .add (.var 2) (.var 1)) [2] (.nm 2) (.rg1 (.var 0)) none) [some a, some b, none] s = .ok (.lst ((shI N m).map D.int)) s) : fin s.length (exs (exS (evE cf gl fShift.n) fShift.w fShift.n) fShift.body [some a, some b, none] s) = .ok (TI (shI N m)) s := by
  simp only [fShift, w_bind, w_bindx, w_to, w_tox, w_quiet, w_sq, w_sqr, w_sqx, w_lp, w_lpr, w_vw, w_bw, w_fin, w_finx, k_b, k_c2, k_q2, w_or, k_c, k_ht, k_hf, k_h2, k_h, k_at, k_af, k_a, k_ot, k_of, k_o, k_n, k_T2, k_T, k_it, k_if, k_g, k_s, k_x, k_l3, k_l2, k_l, k_e2, k_e, k_as, k_u3, k_u2, k_u, k_set2, k_set, k_ret, k_ift, k_iff, k_wt, k_wf, e_cst, e_var, e_bin, e_neg, e_cmp, e_chain, e_and, e_or, e_not, e_ife, e_call, e_bi, e_isi, e_tup, e_lst, e_ix, e_sl, es_nil, es_cons, e_T, eA_one, eA_cons, eO_one, eO_cons, tr_bl, tr_int, a_nm, a_tup, a_sub, as_nil, as_cons, x_nil, x_cons, x_set, x_ife, x_ret, x_rais, List.getElem?_cons_zero, List.getElem?_cons_succ, List.length_cons, List.length_nil, List.map_cons, List.map_nil, List.cons_append, List.nil_append, Nat.reduceSub, Nat.reduceAdd, List.replicate_succ, List.replicate_zero, List.set_cons_zero, List.set_cons_succ, Nat.zero_add, Nat.sub_self, b_add, b_sub, b_ge, b_gt, b_le, b_lt, b_eq, b_ne, b_mul, b_fdiv, b_mod, u_abs, u_inti, u_intb, u_gcd, Bool.not_true, Bool.not_false, is_iI, is_iB, is_iL, is_iT, is_iLT, is_iBS, is_bI, is_bB, is_bLT, is_bBS, is_tL, is_tT, is_tLT, is_lL, is_lT, is_lLT, n_i, n_b, b_eqb, b_neb, i_sq, j_tup, j_lst, j_scr, i_zip, j_zip, j_zipT, j_zipL, u_tupleL, u_tupleT, deep_int, deep_bl, List.take_length, u_all2, w_upi, w_upb, w_upt, w_upl, u_len2, u_list2, k_t2, k_t3, m_l1, m_l2, m_l3, m_l4, m_l5, x_tup0, x_tup1, okMul_1, b_eqt, decide_true, decide_false, Bool.true_and, Bool.false_and, q]
  exact back_TI' _ s
theorem shift_ok (h : P[k]? = some fShift) (hN : N ≤ 1000) : callF gl P (n + 1) k [.int (N : Nat), .int m] s = .ok (TI (shI N m)) s :=
  (callF_at h rfl).trans (shift_b _ _ (shift_c (Nat.le_trans hN (by decide)) (Nat.le_trans hN (by decide))))
end
end Bw

set_option linter.all false
set_option maxRecDepth 100000
set_option maxHeartbeats 1000000
/-! Bw: what a law asks of a drawn wheel: where it leads, the first and the last place so led -/
namespace Bw
open PySem
/-- the first place, found between two -/
theorem isF_ex {d : List Int} {g : Int} : ∀ (n : Nat) (a : Int), ledI d a < g → g ≤ ledI d (a + n) → ∃ x, a < x ∧ x ≤ a + n ∧ isF d g x
  | 0, a, h1, h2 => by
    rw [show a + ((0 : Nat) : Int) = a by omega] at h2
    omega
  | n + 1, a, h1, h2 => by
    by_cases h : g ≤ ledI d (a + 1)
    · refine ⟨a + 1, by omega, by omega, h, ?_⟩
      rw [show a + 1 - 1 = a by omega]
      exact h1
    · have h3 : ledI d (a + 1) < g := Int.not_le.mp h
      have h4 : g ≤ ledI d (a + 1 + (n : Int)) := by
        rw [show a + 1 + (n : Int) = a + ((n + 1 : Nat) : Int) by omega]
        exact h2
      obtain ⟨x, b1, b2, b3⟩ := isF_ex n (a + 1) h3 h4
      exact ⟨x, by omega, by omega, b3⟩
/-- where a wheel leads at its own beginnings -/
theorem ledI_at (d : List Int) (h : 0 < d.length) (k : Int) : ledI d (k * d.length) = d.getD 0 0 + k * d.length := by
  have := ledI_add d h 0 k
  rw [Int.zero_add] at this
  rw [this]
  unfold ledI
  simp
theorem first_near {d : List Int} (W : Wh d) (g : Int) : ∃ x, isF d g x ∧ ((g - d.getD 0 0) / d.length - 2) * d.length < x ∧ x ≤ ((g - d.getD 0 0) / d.length + 1) * d.length := by
  have hp := W.pos
  have hn : (0 : Int) < d.length := by omega
  have h1 := Int.emod_nonneg (g - d.getD 0 0) (b := (d.length : Int)) (by omega)
  have h2 := Int.emod_lt_of_pos (g - d.getD 0 0) hn
  have h3 := Int.mul_ediv_add_emod (g - d.getD 0 0) d.length
  have a1 := ledI_at d hp ((g - d.getD 0 0) / d.length - 2)
  have a2 := ledI_at d hp ((g - d.getD 0 0) / d.length + 1)
  have c := Int.mul_comm (d.length : Int) ((g - d.getD 0 0) / d.length)
  rw [c] at h3
  rw [Int.sub_mul] at a1
  rw [Int.add_mul] at a2
  rw [Int.sub_mul, Int.add_mul]
  obtain ⟨x, b1, b2, b3⟩ := isF_ex (d := d) (g := g) (3 * d.length) ((g - d.getD 0 0) / d.length * d.length - 2 * d.length) (by omega) (by
    rw [show (g - d.getD 0 0) / (d.length : Int) * (d.length : Int) - 2 * (d.length : Int) + ((3 * d.length : Nat) : Int) = (g - d.getD 0 0) / (d.length : Int) * (d.length : Int) + 1 * (d.length : Int) by omega]
    omega)
  exact ⟨x, b3, b1, by omega⟩
def fLawLed : F := ⟨"_law_led", ["disk", "z"], ["disk", "z"], [
  (.ret (.bin .add (.ix (.var 0) (.bin .mod (.bi .int [(.var 1)]) (.bi .len [(.var 0)]))) (.bin .mul (.bin .fdiv (.var 1) (.bi .len [(.var 0)])) (.bi .len [(.var 0)]))))], 61, 100000⟩
def bodyF (kl : Nat) : List S := [(.ife (.cmp .ge (.call kl [(.var 0), (.var 3)]) (.var 1)) [(.ret (.var 3))] []), (.set (.nm 3) (.bin .add (.var 3) (.cst (D.int (1)))))]
def bodyL (kl : Nat) : List S := [(.ife (.cmp .le (.call kl [(.var 0), (.var 3)]) (.var 1)) [(.ret (.var 3))] []), (.set (.nm 3) (.bin .sub (.var 3) (.cst (D.int (1)))))]
def fFirstLed (kl : Nat) : F := ⟨"_law_first_led", ["disk", "z"], ["disk", "z", "ring_so", "k", "lap"], [
  (.set (.nm 2) (.bi .len [(.var 0)])),
  (.set (.nm 3) (.bin .mul (.bin .sub (.bin .fdiv (.bin .sub (.var 1) (.ix (.var 0) (.cst (D.int (0))))) (.var 2)) (.cst (D.int (2)))) (.var 2))),
  (.for_ (.nm 4) (.rg1 (.bin .add (.bin .mul (.cst (D.int (5))) (.var 2)) (.cst (D.int (5))))) (bodyF kl)),
  (.ret (.cst D.non))], 61, 100000⟩
def fLastLed (kl : Nat) : F := ⟨"_law_last_led", ["disk", "z"], ["disk", "z", "ring_so", "k", "lap"], [
  (.set (.nm 2) (.bi .len [(.var 0)])),
  (.set (.nm 3) (.bin .mul (.bin .add (.bin .fdiv (.bin .sub (.var 1) (.ix (.var 0) (.cst (D.int (0))))) (.var 2)) (.cst (D.int (3)))) (.var 2))),
  (.for_ (.nm 4) (.rg1 (.bin .add (.bin .mul (.cst (D.int (5))) (.var 2)) (.cst (D.int (5))))) (bodyL kl)),
  (.ret (.cst D.non))], 61, 100000⟩
theorem for_ret {f : Ev} {ex : Ex} {t : T} {b : List S} {n k : Nat} {x v : D} {xs : List D} {e e1 e2 : En} {s s1 s2 : Sto} (h : asg f t x e s = .ok e1 s1) (h2 : exs ex b e1 s1 = .ok (.ret v) e2 s2) : exFor f ex t b none n k (x :: xs) e s = .ok (.ret v) e2 s2 := by
  show (quiet (asg f t x e s)).to e _ = _
  rw [h, w_quiet, w_to]
  simp only [h2]
section
variable {gl : PySem.Str → Option D} {P : List F} {k kl n w N : Nat} {s : Sto} {d : List Int} {z g x : Int} {cf : CF}
theorem get0 (hp : 0 < d.length) : ixD (TI d) (.int 0) s = .ok (.int (d.getD 0 0)) s := ix_tup _ _ (p := 0) (by rw [List.length_map]; unfold place; rw [if_pos (by decide), if_pos (by omega)]; rfl) (get_ints (z := 0) hp)
theorem lawled_ok (h : P[k]? = some fLawLed) (hp : 0 < d.length) (hl : d.length ≤ 1000) : callF gl P (n + 1) k [TI d, .int z] s = .ok (.int (ledI d z)) s := by
  rw [callF_at h rfl]
  have h1 := Int.emod_nonneg z (b := (d.length : Int)) (by omega)
  have h2 := Int.emod_lt_of_pos z (b := (d.length : Int)) (by omega)
  have e1 : ixD (TI d) (.int (z % (d.length : Int))) s = .ok (.int (d.getD (z % (d.length : Int)).toNat 0)) s := ix_tup _ _ (p := (z % (d.length : Int)).toNat) (by rw [List.length_map]; exact place_mod hp z) (get_ints (by omega))
  have e2 : okDiv (d.length : Int) = true := okDiv_by (by omega) (by omega)
  have e3 : okMul (z / d.length) (d.length : Int) = true := okMul_r (by omega) (by omega)
  have e4 : (0 : Int) < d.length := by omega
  simp only [fLawLed, w_bind, w_bindx, w_to, w_tox, w_quiet, w_sq, w_sqr, w_sqx, w_lp, w_lpr, w_vw, w_bw, w_fin, w_finx, k_b, k_c2, k_q2, w_or, k_c, k_ht, k_hf, k_h2, k_h, k_at, k_af, k_a, k_ot, k_of, k_o, k_n, k_T2, k_T, k_it, k_if, k_g, k_s, k_x, k_l3, k_l2, k_l, k_e2, k_e, k_as, k_u3, k_u2, k_u, k_set2, k_set, k_ret, k_ift, k_iff, k_wt, k_wf, e_cst, e_var, e_bin, e_neg, e_cmp, e_chain, e_and, e_or, e_not, e_ife, e_call, e_bi, e_isi, e_tup, e_lst, e_ix, e_sl, es_nil, es_cons, e_T, eA_one, eA_cons, eO_one, eO_cons, tr_bl, tr_int, a_nm, a_tup, a_sub, as_nil, as_cons, x_nil, x_cons, x_set, x_ife, x_ret, x_rais, List.getElem?_cons_zero, List.getElem?_cons_succ, List.length_cons, List.length_nil, List.map_cons, List.map_nil, List.cons_append, List.nil_append, Nat.reduceSub, Nat.reduceAdd, List.replicate_succ, List.replicate_zero, List.set_cons_zero, List.set_cons_succ, Nat.zero_add, Nat.sub_self, b_add, b_sub, b_ge, b_gt, b_le, b_lt, b_eq, b_ne, b_mul, b_fdiv, b_mod, u_abs, u_inti, u_intb, u_gcd, Bool.not_true, Bool.not_false, is_iI, is_iB, is_iL, is_iT, is_iLT, is_iBS, is_bI, is_bB, is_bLT, is_bBS, is_tL, is_tT, is_tLT, is_lL, is_lT, is_lLT, n_i, n_b, b_eqb, b_neb, i_sq, j_tup, j_lst, j_scr, i_zip, j_zip, j_zipT, j_zipL, u_tupleL, u_tupleT, deep_int, deep_bl, List.take_length, u_all2, w_upi, w_upb, w_upt, w_upl, u_len2, u_list2, k_t2, k_t3, m_l1, m_l2, m_l3, m_l4, m_l5, x_tup0, x_tup1, okMul_1, b_eqt, decide_true, decide_false, Bool.true_and, Bool.false_and, u_lenT, List.length_map, e1, e2, e3, e4]
  rfl
theorem loopF (W : Wh d) (hf : isF d g x) (hc : ∀ z, cf kl [TI d, .int z] s = .ok (.int (ledI d z)) s) : ∀ (xs : List D) (j : Nat) (k : Int) (x4 : Option D), k ≤ x → x < k + xs.length →
    ∃ e', exFor (evE cf gl 61) (exS (evE cf gl 61) w 60) (.nm 4) (bodyF kl) none n j xs [some (TI d), some (.int g), some (.int N), some (.int k), x4] s = .ok (.ret (.int x)) e' s
  | [], j, k, x4, h1, h2 => by
    rw [List.length_nil] at h2
    omega
  | y :: xs, j, k, x4, h1, h2 => by
    rw [List.length_cons] at h2
    by_cases h : x ≤ k
    · have e : k = x := by omega
      subst e
      have c : decide (g ≤ ledI d k) = true := decide_eq_true hf.1
      have hb : exs (exS (evE cf gl 61) w 60) (bodyF kl) [some (TI d), some (.int g), some (.int N), some (.int k), some y] s = .ok (.ret (.int k)) [some (TI d), some (.int g), some (.int N), some (.int k), some y] s := by
        simp only [bodyF, w_bind, w_bindx, w_to, w_tox, w_quiet, w_sq, w_sqr, w_sqx, w_lp, w_lpr, w_vw, w_bw, w_fin, w_finx, k_b, k_c2, k_q2, w_or, k_c, k_ht, k_hf, k_h2, k_h, k_at, k_af, k_a, k_ot, k_of, k_o, k_n, k_T2, k_T, k_it, k_if, k_g, k_s, k_x, k_l3, k_l2, k_l, k_e2, k_e, k_as, k_u3, k_u2, k_u, k_set2, k_set, k_ret, k_ift, k_iff, k_wt, k_wf, e_cst, e_var, e_bin, e_neg, e_cmp, e_chain, e_and, e_or, e_not, e_ife, e_call, e_bi, e_isi, e_tup, e_lst, e_ix, e_sl, es_nil, es_cons, e_T, eA_one, eA_cons, eO_one, eO_cons, tr_bl, tr_int, a_nm, a_tup, a_sub, as_nil, as_cons, x_nil, x_cons, x_set, x_ife, x_ret, x_rais, List.getElem?_cons_zero, List.getElem?_cons_succ, List.length_cons, List.length_nil, List.map_cons, List.map_nil, List.cons_append, List.nil_append, Nat.reduceSub, Nat.reduceAdd, List.replicate_succ, List.replicate_zero, List.set_cons_zero, List.set_cons_succ, Nat.zero_add, Nat.sub_self, b_add, b_sub, b_ge, b_gt, b_le, b_lt, b_eq, b_ne, b_mul, b_fdiv, b_mod, u_abs, u_inti, u_intb, u_gcd, Bool.not_true, Bool.not_false, is_iI, is_iB, is_iL, is_iT, is_iLT, is_iBS, is_bI, is_bB, is_bLT, is_bBS, is_tL, is_tT, is_tLT, is_lL, is_lT, is_lLT, n_i, n_b, b_eqb, b_neb, i_sq, j_tup, j_lst, j_scr, i_zip, j_zip, j_zipT, j_zipL, u_tupleL, u_tupleT, deep_int, deep_bl, List.take_length, u_all2, w_upi, w_upb, w_upt, w_upl, u_len2, u_list2, k_t2, k_t3, m_l1, m_l2, m_l3, m_l4, m_l5, x_tup0, x_tup1, okMul_1, b_eqt, decide_true, decide_false, Bool.true_and, Bool.false_and, hc, c]
      exact ⟨_, for_ret (e1 := [some (TI d), some (.int g), some (.int N), some (.int k), some y]) rfl hb⟩
    · have c : decide (g ≤ ledI d k) = false := decide_eq_false fun l => h ((isF_iff W hf k).mp l)
      have hb : exs (exS (evE cf gl 61) w 60) (bodyF kl) [some (TI d), some (.int g), some (.int N), some (.int k), some y] s = .ok .next [some (TI d), some (.int g), some (.int N), some (.int (k + 1)), some y] s := by
        simp only [bodyF, w_bind, w_bindx, w_to, w_tox, w_quiet, w_sq, w_sqr, w_sqx, w_lp, w_lpr, w_vw, w_bw, w_fin, w_finx, k_b, k_c2, k_q2, w_or, k_c, k_ht, k_hf, k_h2, k_h, k_at, k_af, k_a, k_ot, k_of, k_o, k_n, k_T2, k_T, k_it, k_if, k_g, k_s, k_x, k_l3, k_l2, k_l, k_e2, k_e, k_as, k_u3, k_u2, k_u, k_set2, k_set, k_ret, k_ift, k_iff, k_wt, k_wf, e_cst, e_var, e_bin, e_neg, e_cmp, e_chain, e_and, e_or, e_not, e_ife, e_call, e_bi, e_isi, e_tup, e_lst, e_ix, e_sl, es_nil, es_cons, e_T, eA_one, eA_cons, eO_one, eO_cons, tr_bl, tr_int, a_nm, a_tup, a_sub, as_nil, as_cons, x_nil, x_cons, x_set, x_ife, x_ret, x_rais, List.getElem?_cons_zero, List.getElem?_cons_succ, List.length_cons, List.length_nil, List.map_cons, List.map_nil, List.cons_append, List.nil_append, Nat.reduceSub, Nat.reduceAdd, List.replicate_succ, List.replicate_zero, List.set_cons_zero, List.set_cons_succ, Nat.zero_add, Nat.sub_self, b_add, b_sub, b_ge, b_gt, b_le, b_lt, b_eq, b_ne, b_mul, b_fdiv, b_mod, u_abs, u_inti, u_intb, u_gcd, Bool.not_true, Bool.not_false, is_iI, is_iB, is_iL, is_iT, is_iLT, is_iBS, is_bI, is_bB, is_bLT, is_bBS, is_tL, is_tT, is_tLT, is_lL, is_lT, is_lLT, n_i, n_b, b_eqb, b_neb, i_sq, j_tup, j_lst, j_scr, i_zip, j_zip, j_zipT, j_zipL, u_tupleL, u_tupleT, deep_int, deep_bl, List.take_length, u_all2, w_upi, w_upb, w_upt, w_upl, u_len2, u_list2, k_t2, k_t3, m_l1, m_l2, m_l3, m_l4, m_l5, x_tup0, x_tup1, okMul_1, b_eqt, decide_true, decide_false, Bool.true_and, Bool.false_and, hc, c]
      obtain ⟨e', q⟩ := loopF W hf hc xs (j + 1) (k + 1) (some y) (by omega) (by omega)
      exact ⟨e', (for_step (e1 := [some (TI d), some (.int g), some (.int N), some (.int k), some y]) rfl hb).trans q⟩
theorem loopL (W : Wh d) (hf : isF d (g + 1) (x + 1)) (hc : ∀ z, cf kl [TI d, .int z] s = .ok (.int (ledI d z)) s) : ∀ (xs : List D) (j : Nat) (k : Int) (x4 : Option D), x ≤ k → k < x + xs.length →
    ∃ e', exFor (evE cf gl 61) (exS (evE cf gl 61) w 60) (.nm 4) (bodyL kl) none n j xs [some (TI d), some (.int g), some (.int N), some (.int k), x4] s = .ok (.ret (.int x)) e' s
  | [], j, k, x4, h1, h2 => by
    rw [List.length_nil] at h2
    omega
  | y :: xs, j, k, x4, h1, h2 => by
    rw [List.length_cons] at h2
    have i := isF_iff W hf k
    by_cases h : k ≤ x
    · have e : k = x := by omega
      subst e
      have c : decide (ledI d k ≤ g) = true := decide_eq_true (by omega)
      have hb : exs (exS (evE cf gl 61) w 60) (bodyL kl) [some (TI d), some (.int g), some (.int N), some (.int k), some y] s = .ok (.ret (.int k)) [some (TI d), some (.int g), some (.int N), some (.int k), some y] s := by
        simp only [bodyL, w_bind, w_bindx, w_to, w_tox, w_quiet, w_sq, w_sqr, w_sqx, w_lp, w_lpr, w_vw, w_bw, w_fin, w_finx, k_b, k_c2, k_q2, w_or, k_c, k_ht, k_hf, k_h2, k_h, k_at, k_af, k_a, k_ot, k_of, k_o, k_n, k_T2, k_T, k_it, k_if, k_g, k_s, k_x, k_l3, k_l2, k_l, k_e2, k_e, k_as, k_u3, k_u2, k_u, k_set2, k_set, k_ret, k_ift, k_iff, k_wt, k_wf, e_cst, e_var, e_bin, e_neg, e_cmp, e_chain, e_and, e_or, e_not, e_ife, e_call, e_bi, e_isi, e_tup, e_lst, e_ix, e_sl, es_nil, es_cons, e_T, eA_one, eA_cons, eO_one, eO_cons, tr_bl, tr_int, a_nm, a_tup, a_sub, as_nil, as_cons, x_nil, x_cons, x_set, x_ife, x_ret, x_rais, List.getElem?_cons_zero, List.getElem?_cons_succ, List.length_cons, List.length_nil, List.map_cons, List.map_nil, List.cons_append, List.nil_append, Nat.reduceSub, Nat.reduceAdd, List.replicate_succ, List.replicate_zero, List.set_cons_zero, List.set_cons_succ, Nat.zero_add, Nat.sub_self, b_add, b_sub, b_ge, b_gt, b_le, b_lt, b_eq, b_ne, b_mul, b_fdiv, b_mod, u_abs, u_inti, u_intb, u_gcd, Bool.not_true, Bool.not_false, is_iI, is_iB, is_iL, is_iT, is_iLT, is_iBS, is_bI, is_bB, is_bLT, is_bBS, is_tL, is_tT, is_tLT, is_lL, is_lT, is_lLT, n_i, n_b, b_eqb, b_neb, i_sq, j_tup, j_lst, j_scr, i_zip, j_zip, j_zipT, j_zipL, u_tupleL, u_tupleT, deep_int, deep_bl, List.take_length, u_all2, w_upi, w_upb, w_upt, w_upl, u_len2, u_list2, k_t2, k_t3, m_l1, m_l2, m_l3, m_l4, m_l5, x_tup0, x_tup1, okMul_1, b_eqt, decide_true, decide_false, Bool.true_and, Bool.false_and, hc, c]
      exact ⟨_, for_ret (e1 := [some (TI d), some (.int g), some (.int N), some (.int k), some y]) rfl hb⟩
    · have c : decide (ledI d k ≤ g) = false := decide_eq_false (by omega)
      have hb : exs (exS (evE cf gl 61) w 60) (bodyL kl) [some (TI d), some (.int g), some (.int N), some (.int k), some y] s = .ok .next [some (TI d), some (.int g), some (.int N), some (.int (k - 1)), some y] s := by
        simp only [bodyL, w_bind, w_bindx, w_to, w_tox, w_quiet, w_sq, w_sqr, w_sqx, w_lp, w_lpr, w_vw, w_bw, w_fin, w_finx, k_b, k_c2, k_q2, w_or, k_c, k_ht, k_hf, k_h2, k_h, k_at, k_af, k_a, k_ot, k_of, k_o, k_n, k_T2, k_T, k_it, k_if, k_g, k_s, k_x, k_l3, k_l2, k_l, k_e2, k_e, k_as, k_u3, k_u2, k_u, k_set2, k_set, k_ret, k_ift, k_iff, k_wt, k_wf, e_cst, e_var, e_bin, e_neg, e_cmp, e_chain, e_and, e_or, e_not, e_ife, e_call, e_bi, e_isi, e_tup, e_lst, e_ix, e_sl, es_nil, es_cons, e_T, eA_one, eA_cons, eO_one, eO_cons, tr_bl, tr_int, a_nm, a_tup, a_sub, as_nil, as_cons, x_nil, x_cons, x_set, x_ife, x_ret, x_rais, List.getElem?_cons_zero, List.getElem?_cons_succ, List.length_cons, List.length_nil, List.map_cons, List.map_nil, List.cons_append, List.nil_append, Nat.reduceSub, Nat.reduceAdd, List.replicate_succ, List.replicate_zero, List.set_cons_zero, List.set_cons_succ, Nat.zero_add, Nat.sub_self, b_add, b_sub, b_ge, b_gt, b_le, b_lt, b_eq, b_ne, b_mul, b_fdiv, b_mod, u_abs, u_inti, u_intb, u_gcd, Bool.not_true, Bool.not_false, is_iI, is_iB, is_iL, is_iT, is_iLT, is_iBS, is_bI, is_bB, is_bLT, is_bBS, is_tL, is_tT, is_tLT, is_lL, is_lT, is_lLT, n_i, n_b, b_eqb, b_neb, i_sq, j_tup, j_lst, j_scr, i_zip, j_zip, j_zipT, j_zipL, u_tupleL, u_tupleT, deep_int, deep_bl, List.take_length, u_all2, w_upi, w_upb, w_upt, w_upl, u_len2, u_list2, k_t2, k_t3, m_l1, m_l2, m_l3, m_l4, m_l5, x_tup0, x_tup1, okMul_1, b_eqt, decide_true, decide_false, Bool.true_and, Bool.false_and, hc, c]
      obtain ⟨e', q⟩ := loopL W hf hc xs (j + 1) (k - 1) (some y) (by omega) (by omega)
      exact ⟨e', (for_step (e1 := [some (TI d), some (.int g), some (.int N), some (.int k), some y]) rfl hb).trans q⟩
def preF : List S := [(.set (.nm 2) (.bi .len [(.var 0)])),
  (.set (.nm 3) (.bin .mul (.bin .sub (.bin .fdiv (.bin .sub (.var 1) (.ix (.var 0) (.cst (D.int (0))))) (.var 2)) (.cst (D.int (2)))) (.var 2)))]
def pstF (kl : Nat) : List S := [(.for_ (.nm 4) (.rg1 (.bin .add (.bin .mul (.cst (D.int (5))) (.var 2)) (.cst (D.int (5))))) (bodyF kl)),
  (.ret (.cst D.non))]
def preL : List S := [(.set (.nm 2) (.bi .len [(.var 0)])),
  (.set (.nm 3) (.bin .mul (.bin .add (.bin .fdiv (.bin .sub (.var 1) (.ix (.var 0) (.cst (D.int (0))))) (.var 2)) (.cst (D.int (3)))) (.var 2)))]
def pstL (kl : Nat) : List S := [(.for_ (.nm 4) (.rg1 (.bin .add (.bin .mul (.cst (D.int (5))) (.var 2)) (.cst (D.int (5))))) (bodyL kl)),
  (.ret (.cst D.non))]
theorem first_s1 (e0 : (0 : Int) < d.length) (e1 : ixD (TI d) (.int 0) s = .ok (.int (d.getD 0 0)) s) (e2 : okDiv (d.length : Int) = true) (e3 : okMul ((g - d.getD 0 0) / d.length - 2) (d.length : Int) = true) :
  exs (exS (evE cf gl 61) 100000 61) preF [some (TI d), some (.int g), none, none, none] s = .ok .next [some (TI d), some (.int g), some (.int d.length), some (.int (((g - d.getD 0 0) / d.length - 2) * d.length)), none] s := by
  simp only [preF, w_bind, w_bindx, w_to, w_tox, w_quiet, w_sq, w_sqr, w_sqx, w_lp, w_lpr, w_vw, w_bw, w_fin, w_finx, k_b, k_c2, k_q2, w_or, k_c, k_ht, k_hf, k_h2, k_h, k_at, k_af, k_a, k_ot, k_of, k_o, k_n, k_T2, k_T, k_it, k_if, k_g, k_s, k_x, k_l3, k_l2, k_l, k_e2, k_e, k_as, k_u3, k_u2, k_u, k_set2, k_set, k_ret, k_ift, k_iff, k_wt, k_wf, e_cst, e_var, e_bin, e_neg, e_cmp, e_chain, e_and, e_or, e_not, e_ife, e_call, e_bi, e_isi, e_tup, e_lst, e_ix, e_sl, es_nil, es_cons, e_T, eA_one, eA_cons, eO_one, eO_cons, tr_bl, tr_int, a_nm, a_tup, a_sub, as_nil, as_cons, x_nil, x_cons, x_set, x_ife, x_ret, x_rais, List.getElem?_cons_zero, List.getElem?_cons_succ, List.length_cons, List.length_nil, List.map_cons, List.map_nil, List.cons_append, List.nil_append, Nat.reduceSub, Nat.reduceAdd, List.replicate_succ, List.replicate_zero, List.set_cons_zero, List.set_cons_succ, Nat.zero_add, Nat.sub_self, b_add, b_sub, b_ge, b_gt, b_le, b_lt, b_eq, b_ne, b_mul, b_fdiv, b_mod, u_abs, u_inti, u_intb, u_gcd, Bool.not_true, Bool.not_false, is_iI, is_iB, is_iL, is_iT, is_iLT, is_iBS, is_bI, is_bB, is_bLT, is_bBS, is_tL, is_tT, is_tLT, is_lL, is_lT, is_lLT, n_i, n_b, b_eqb, b_neb, i_sq, j_tup, j_lst, j_scr, i_zip, j_zip, j_zipT, j_zipL, u_tupleL, u_tupleT, deep_int, deep_bl, List.take_length, u_all2, w_upi, w_upb, w_upt, w_upl, u_len2, u_list2, k_t2, k_t3, m_l1, m_l2, m_l3, m_l4, m_l5, x_tup0, x_tup1, okMul_1, b_eqt, decide_true, decide_false, Bool.true_and, Bool.false_and, u_lenT, List.length_map, e0, e1, e2, e3]
theorem first_s2 {e' : En} {ys : List D} {L k0 : Int}
  (hi : evIt (evE cf gl 61) (.rg1 (.bin .add (.bin .mul (.cst (D.int (5))) (.var 2)) (.cst (D.int (5))))) [some (TI d), some (.int g), some (.int L), some (.int k0), none] s = .ok (none, ys) s)
  (q : exFor (evE cf gl 61) (exS (evE cf gl 61) 100000 60) (T.nm 4) (bodyF kl) none ys.length 0 ys [some (TI d), some (.int g), some (.int L), some (.int k0), none] s = .ok (.ret (.int x)) e' s) :
  exs (exS (evE cf gl 61) 100000 61) (pstF kl) [some (TI d), some (.int g), some (.int L), some (.int k0), none] s = .ok (.ret (.int x)) e' s := by
  simp only [pstF, w_bind, w_bindx, w_to, w_tox, w_quiet, w_sq, w_sqr, w_sqx, w_lp, w_lpr, w_vw, w_bw, w_fin, w_finx, k_b, k_c2, k_q2, w_or, k_c, k_ht, k_hf, k_h2, k_h, k_at, k_af, k_a, k_ot, k_of, k_o, k_n, k_T2, k_T, k_it, k_if, k_g, k_s, k_x, k_l3, k_l2, k_l, k_e2, k_e, k_as, k_u3, k_u2, k_u, k_set2, k_set, k_ret, k_ift, k_iff, k_wt, k_wf, e_cst, e_var, e_bin, e_neg, e_cmp, e_chain, e_and, e_or, e_not, e_ife, e_call, e_bi, e_isi, e_tup, e_lst, e_ix, e_sl, es_nil, es_cons, e_T, eA_one, eA_cons, eO_one, eO_cons, tr_bl, tr_int, a_nm, a_tup, a_sub, as_nil, as_cons, x_nil, x_cons, x_set, x_ife, x_ret, x_rais, List.getElem?_cons_zero, List.getElem?_cons_succ, List.length_cons, List.length_nil, List.map_cons, List.map_nil, List.cons_append, List.nil_append, Nat.reduceSub, Nat.reduceAdd, List.replicate_succ, List.replicate_zero, List.set_cons_zero, List.set_cons_succ, Nat.zero_add, Nat.sub_self, b_add, b_sub, b_ge, b_gt, b_le, b_lt, b_eq, b_ne, b_mul, b_fdiv, b_mod, u_abs, u_inti, u_intb, u_gcd, Bool.not_true, Bool.not_false, is_iI, is_iB, is_iL, is_iT, is_iLT, is_iBS, is_bI, is_bB, is_bLT, is_bBS, is_tL, is_tT, is_tLT, is_lL, is_lT, is_lLT, n_i, n_b, b_eqb, b_neb, i_sq, j_tup, j_lst, j_scr, i_zip, j_zip, j_zipT, j_zipL, u_tupleL, u_tupleT, deep_int, deep_bl, List.take_length, u_all2, w_upi, w_upb, w_upt, w_upl, u_len2, u_list2, k_t2, k_t3, m_l1, m_l2, m_l3, m_l4, m_l5, x_tup0, x_tup1, okMul_1, b_eqt, decide_true, decide_false, Bool.true_and, Bool.false_and, x_for, hi, Kfor, q]
theorem last_s1 (e0 : (0 : Int) < d.length) (e1 : ixD (TI d) (.int 0) s = .ok (.int (d.getD 0 0)) s) (e2 : okDiv (d.length : Int) = true) (e3 : okMul ((g - d.getD 0 0) / d.length + 3) (d.length : Int) = true) :
  exs (exS (evE cf gl 61) 100000 61) preL [some (TI d), some (.int g), none, none, none] s = .ok .next [some (TI d), some (.int g), some (.int d.length), some (.int (((g - d.getD 0 0) / d.length + 3) * d.length)), none] s := by
  simp only [preL, w_bind, w_bindx, w_to, w_tox, w_quiet, w_sq, w_sqr, w_sqx, w_lp, w_lpr, w_vw, w_bw, w_fin, w_finx, k_b, k_c2, k_q2, w_or, k_c, k_ht, k_hf, k_h2, k_h, k_at, k_af, k_a, k_ot, k_of, k_o, k_n, k_T2, k_T, k_it, k_if, k_g, k_s, k_x, k_l3, k_l2, k_l, k_e2, k_e, k_as, k_u3, k_u2, k_u, k_set2, k_set, k_ret, k_ift, k_iff, k_wt, k_wf, e_cst, e_var, e_bin, e_neg, e_cmp, e_chain, e_and, e_or, e_not, e_ife, e_call, e_bi, e_isi, e_tup, e_lst, e_ix, e_sl, es_nil, es_cons, e_T, eA_one, eA_cons, eO_one, eO_cons, tr_bl, tr_int, a_nm, a_tup, a_sub, as_nil, as_cons, x_nil, x_cons, x_set, x_ife, x_ret, x_rais, List.getElem?_cons_zero, List.getElem?_cons_succ, List.length_cons, List.length_nil, List.map_cons, List.map_nil, List.cons_append, List.nil_append, Nat.reduceSub, Nat.reduceAdd, List.replicate_succ, List.replicate_zero, List.set_cons_zero, List.set_cons_succ, Nat.zero_add, Nat.sub_self, b_add, b_sub, b_ge, b_gt, b_le, b_lt, b_eq, b_ne, b_mul, b_fdiv, b_mod, u_abs, u_inti, u_intb, u_gcd, Bool.not_true, Bool.not_false, is_iI, is_iB, is_iL, is_iT, is_iLT, is_iBS, is_bI, is_bB, is_bLT, is_bBS, is_tL, is_tT, is_tLT, is_lL, is_lT, is_lLT, n_i, n_b, b_eqb, b_neb, i_sq, j_tup, j_lst, j_scr, i_zip, j_zip, j_zipT, j_zipL, u_tupleL, u_tupleT, deep_int, deep_bl, List.take_length, u_all2, w_upi, w_upb, w_upt, w_upl, u_len2, u_list2, k_t2, k_t3, m_l1, m_l2, m_l3, m_l4, m_l5, x_tup0, x_tup1, okMul_1, b_eqt, decide_true, decide_false, Bool.true_and, Bool.false_and, u_lenT, List.length_map, e0, e1, e2, e3]
theorem last_s2 {e' : En} {ys : List D} {L k0 : Int}
  (hi : evIt (evE cf gl 61) (.rg1 (.bin .add (.bin .mul (.cst (D.int (5))) (.var 2)) (.cst (D.int (5))))) [some (TI d), some (.int g), some (.int L), some (.int k0), none] s = .ok (none, ys) s)
  (q : exFor (evE cf gl 61) (exS (evE cf gl 61) 100000 60) (T.nm 4) (bodyL kl) none ys.length 0 ys [some (TI d), some (.int g), some (.int L), some (.int k0), none] s = .ok (.ret (.int x)) e' s) :
  exs (exS (evE cf gl 61) 100000 61) (pstL kl) [some (TI d), some (.int g), some (.int L), some (.int k0), none] s = .ok (.ret (.int x)) e' s := by
  simp only [pstL, w_bind, w_bindx, w_to, w_tox, w_quiet, w_sq, w_sqr, w_sqx, w_lp, w_lpr, w_vw, w_bw, w_fin, w_finx, k_b, k_c2, k_q2, w_or, k_c, k_ht, k_hf, k_h2, k_h, k_at, k_af, k_a, k_ot, k_of, k_o, k_n, k_T2, k_T, k_it, k_if, k_g, k_s, k_x, k_l3, k_l2, k_l, k_e2, k_e, k_as, k_u3, k_u2, k_u, k_set2, k_set, k_ret, k_ift, k_iff, k_wt, k_wf, e_cst, e_var, e_bin, e_neg, e_cmp, e_chain, e_and, e_or, e_not, e_ife, e_call, e_bi, e_isi, e_tup, e_lst, e_ix, e_sl, es_nil, es_cons, e_T, eA_one, eA_cons, eO_one, eO_cons, tr_bl, tr_int, a_nm, a_tup, a_sub, as_nil, as_cons, x_nil, x_cons, x_set, x_ife, x_ret, x_rais, List.getElem?_cons_zero, List.getElem?_cons_succ, List.length_cons, List.length_nil, List.map_cons, List.map_nil, List.cons_append, List.nil_append, Nat.reduceSub, Nat.reduceAdd, List.replicate_succ, List.replicate_zero, List.set_cons_zero, List.set_cons_succ, Nat.zero_add, Nat.sub_self, b_add, b_sub, b_ge, b_gt, b_le, b_lt, b_eq, b_ne, b_mul, b_fdiv, b_mod, u_abs, u_inti, u_intb, u_gcd, Bool.not_true, Bool.not_false, is_iI, is_iB, is_iL, is_iT, is_iLT, is_iBS, is_bI, is_bB, is_bLT, is_bBS, is_tL, is_tT, is_tLT, is_lL, is_lT, is_lLT, n_i, n_b, b_eqb, b_neb, i_sq, j_tup, j_lst, j_scr, i_zip, j_zip, j_zipT, j_zipL, u_tupleL, u_tupleT, deep_int, deep_bl, List.take_length, u_all2, w_upi, w_upb, w_upt, w_upl, u_len2, u_list2, k_t2, k_t3, m_l1, m_l2, m_l3, m_l4, m_l5, x_tup0, x_tup1, okMul_1, b_eqt, decide_true, decide_false, Bool.true_and, Bool.false_and, x_for, hi, Kfor, q]
theorem r55 (d : List Int) : D.int (5 * (d.length : Int) + 5) = D.int ((5 * d.length + 5 : Nat) : Int) := by
  congr 1
theorem first_b (hc : ∀ z, cf kl [TI d, .int z] s = .ok (.int (ledI d z)) s) (W : Wh d) (hl : d.length ≤ 1000) (hf : isF d g x) : fin s.length (exs (exS (evE cf gl (fFirstLed kl).n) (fFirstLed kl).w (fFirstLed kl).n) (fFirstLed kl).body [some (TI d), some (.int g), none, none, none] s) = .ok (.int x) s := by
  have hp := W.pos
  have e0 : (0 : Int) < d.length := by omega
  have e1 := get0 (s := s) hp
  have e2 : okDiv (d.length : Int) = true := okDiv_by (by omega) (by omega)
  have e3 : okMul ((g - d.getD 0 0) / d.length - 2) (d.length : Int) = true := okMul_r (by omega) (by omega)
  have e4 : okMul 5 (d.length : Int) = true := okMul_r (by omega) (by omega)
  obtain ⟨y, y1, y2, y3⟩ := first_near W g
  have e := isF_one W hf y1
  subst e
  have hi : evIt (evE cf gl 61) (.rg1 (.bin .add (.bin .mul (.cst (D.int (5))) (.var 2)) (.cst (D.int (5))))) [some (TI d), some (.int g), some (.int d.length), some (.int (((g - d.getD 0 0) / d.length - 2) * d.length)), none] s = .ok (none, (List.range (5 * d.length + 5)).map fun i => D.int ((i : Nat) : Int)) s := rg1_ok (by simp only [w_bind, w_bindx, w_to, w_tox, w_quiet, w_sq, w_sqr, w_sqx, w_lp, w_lpr, w_vw, w_bw, w_fin, w_finx, k_b, k_c2, k_q2, w_or, k_c, k_ht, k_hf, k_h2, k_h, k_at, k_af, k_a, k_ot, k_of, k_o, k_n, k_T2, k_T, k_it, k_if, k_g, k_s, k_x, k_l3, k_l2, k_l, k_e2, k_e, k_as, k_u3, k_u2, k_u, k_set2, k_set, k_ret, k_ift, k_iff, k_wt, k_wf, e_cst, e_var, e_bin, e_neg, e_cmp, e_chain, e_and, e_or, e_not, e_ife, e_call, e_bi, e_isi, e_tup, e_lst, e_ix, e_sl, es_nil, es_cons, e_T, eA_one, eA_cons, eO_one, eO_cons, tr_bl, tr_int, a_nm, a_tup, a_sub, as_nil, as_cons, x_nil, x_cons, x_set, x_ife, x_ret, x_rais, List.getElem?_cons_zero, List.getElem?_cons_succ, List.length_cons, List.length_nil, List.map_cons, List.map_nil, List.cons_append, List.nil_append, Nat.reduceSub, Nat.reduceAdd, List.replicate_succ, List.replicate_zero, List.set_cons_zero, List.set_cons_succ, Nat.zero_add, Nat.sub_self, b_add, b_sub, b_ge, b_gt, b_le, b_lt, b_eq, b_ne, b_mul, b_fdiv, b_mod, u_abs, u_inti, u_intb, u_gcd, Bool.not_true, Bool.not_false, is_iI, is_iB, is_iL, is_iT, is_iLT, is_iBS, is_bI, is_bB, is_bLT, is_bBS, is_tL, is_tT, is_tLT, is_lL, is_lT, is_lLT, n_i, n_b, b_eqb, b_neb, i_sq, j_tup, j_lst, j_scr, i_zip, j_zip, j_zipT, j_zipL, u_tupleL, u_tupleT, deep_int, deep_bl, List.take_length, u_all2, w_upi, w_upb, w_upt, w_upl, u_len2, u_list2, k_t2, k_t3, m_l1, m_l2, m_l3, m_l4, m_l5, x_tup0, x_tup1, okMul_1, b_eqt, decide_true, decide_false, Bool.true_and, Bool.false_and, e4, r55]) (by omega)
  obtain ⟨e', q⟩ := loopF (cf := cf) (gl := gl) (w := 100000) (n := ((List.range (5 * d.length + 5)).map fun i => D.int ((i : Nat) : Int)).length) (N := d.length) W hf hc ((List.range (5 * d.length + 5)).map fun i => D.int ((i : Nat) : Int)) 0 (((g - d.getD 0 0) / d.length - 2) * d.length) none (by omega) (by rw [Int.add_mul] at y3; rw [Int.sub_mul, List.length_map, List.length_range]; omega)
  have q2 := first_s2 hi q
  have q3 : exs (exS (evE cf gl 61) 100000 61) (preF ++ pstF kl) [some (TI d), some (.int g), none, none, none] s = .ok (.ret (.int x)) e' s := by
    rw [exs_app, first_s1 e0 e1 e2 e3, w_sq]
    exact q2
  have q4 : fin s.length (exs (exS (evE cf gl 61) 100000 61) (preF ++ pstF kl) [some (TI d), some (.int g), none, none, none] s) = .ok (.int x) s := by
    rw [q3]
    simp only [w_bind, w_bindx, w_to, w_tox, w_quiet, w_sq, w_sqr, w_sqx, w_lp, w_lpr, w_vw, w_bw, w_fin, w_finx, k_b, k_c2, k_q2, w_or, k_c, k_ht, k_hf, k_h2, k_h, k_at, k_af, k_a, k_ot, k_of, k_o, k_n, k_T2, k_T, k_it, k_if, k_g, k_s, k_x, k_l3, k_l2, k_l, k_e2, k_e, k_as, k_u3, k_u2, k_u, k_set2, k_set, k_ret, k_ift, k_iff, k_wt, k_wf, e_cst, e_var, e_bin, e_neg, e_cmp, e_chain, e_and, e_or, e_not, e_ife, e_call, e_bi, e_isi, e_tup, e_lst, e_ix, e_sl, es_nil, es_cons, e_T, eA_one, eA_cons, eO_one, eO_cons, tr_bl, tr_int, a_nm, a_tup, a_sub, as_nil, as_cons, x_nil, x_cons, x_set, x_ife, x_ret, x_rais, List.getElem?_cons_zero, List.getElem?_cons_succ, List.length_cons, List.length_nil, List.map_cons, List.map_nil, List.cons_append, List.nil_append, Nat.reduceSub, Nat.reduceAdd, List.replicate_succ, List.replicate_zero, List.set_cons_zero, List.set_cons_succ, Nat.zero_add, Nat.sub_self, b_add, b_sub, b_ge, b_gt, b_le, b_lt, b_eq, b_ne, b_mul, b_fdiv, b_mod, u_abs, u_inti, u_intb, u_gcd, Bool.not_true, Bool.not_false, is_iI, is_iB, is_iL, is_iT, is_iLT, is_iBS, is_bI, is_bB, is_bLT, is_bBS, is_tL, is_tT, is_tLT, is_lL, is_lT, is_lLT, n_i, n_b, b_eqb, b_neb, i_sq, j_tup, j_lst, j_scr, i_zip, j_zip, j_zipT, j_zipL, u_tupleL, u_tupleT, deep_int, deep_bl, List.take_length, u_all2, w_upi, w_upb, w_upt, w_upl, u_len2, u_list2, k_t2, k_t3, m_l1, m_l2, m_l3, m_l4, m_l5, x_tup0, x_tup1, okMul_1, b_eqt, decide_true, decide_false, Bool.true_and, Bool.false_and]
  exact q4
theorem first_ok (hk : P[kl]? = some fLawLed) (h : P[k]? = some (fFirstLed kl)) (W : Wh d) (hl : d.length ≤ 1000) (hf : isF d g x) : callF gl P (n + 2) k [TI d, .int g] s = .ok (.int x) s :=
  (callF_at h rfl).trans (first_b (fun z => lawled_ok hk W.pos hl) W hl hf)
theorem last_b (hc : ∀ z, cf kl [TI d, .int z] s = .ok (.int (ledI d z)) s) (W : Wh d) (hl : d.length ≤ 1000) (hf : isF d (g + 1) (x + 1)) : fin s.length (exs (exS (evE cf gl (fLastLed kl).n) (fLastLed kl).w (fLastLed kl).n) (fLastLed kl).body [some (TI d), some (.int g), none, none, none] s) = .ok (.int x) s := by
  have hp := W.pos
  have e0 : (0 : Int) < d.length := by omega
  have e1 := get0 (s := s) hp
  have e2 : okDiv (d.length : Int) = true := okDiv_by (by omega) (by omega)
  have e3 : okMul ((g - d.getD 0 0) / d.length + 3) (d.length : Int) = true := okMul_r (by omega) (by omega)
  have e4 : okMul 5 (d.length : Int) = true := okMul_r (by omega) (by omega)
  obtain ⟨x0, u1, u2, u3⟩ := first_near W (g + 1)
  have e := isF_one W hf u1
  have s1 : (g - d.getD 0 0) / d.length ≤ (g + 1 - d.getD 0 0) / d.length := Int.ediv_le_ediv e0 (by omega)
  have s2 : (g + 1 - d.getD 0 0) / d.length ≤ (g - d.getD 0 0) / d.length + 1 := by
    have := Int.add_ediv_of_dvd_right (a := g - d.getD 0 0) (b := d.length) (c := d.length) (Int.dvd_refl _)
    rw [Int.ediv_self (by omega)] at this
    rw [← this]
    exact Int.ediv_le_ediv e0 (by omega)
  have m1 := Int.mul_le_mul_of_nonneg_right s1 (Int.le_of_lt e0)
  have m2 := Int.mul_le_mul_of_nonneg_right s2 (Int.le_of_lt e0)
  rw [Int.add_mul] at m2
  rw [Int.sub_mul] at u2
  rw [Int.add_mul] at u3
  have hi : evIt (evE cf gl 61) (.rg1 (.bin .add (.bin .mul (.cst (D.int (5))) (.var 2)) (.cst (D.int (5))))) [some (TI d), some (.int g), some (.int d.length), some (.int (((g - d.getD 0 0) / d.length + 3) * d.length)), none] s = .ok (none, (List.range (5 * d.length + 5)).map fun i => D.int ((i : Nat) : Int)) s := rg1_ok (by simp only [w_bind, w_bindx, w_to, w_tox, w_quiet, w_sq, w_sqr, w_sqx, w_lp, w_lpr, w_vw, w_bw, w_fin, w_finx, k_b, k_c2, k_q2, w_or, k_c, k_ht, k_hf, k_h2, k_h, k_at, k_af, k_a, k_ot, k_of, k_o, k_n, k_T2, k_T, k_it, k_if, k_g, k_s, k_x, k_l3, k_l2, k_l, k_e2, k_e, k_as, k_u3, k_u2, k_u, k_set2, k_set, k_ret, k_ift, k_iff, k_wt, k_wf, e_cst, e_var, e_bin, e_neg, e_cmp, e_chain, e_and, e_or, e_not, e_ife, e_call, e_bi, e_isi, e_tup, e_lst, e_ix, e_sl, es_nil, es_cons, e_T, eA_one, eA_cons, eO_one, eO_cons, tr_bl, tr_int, a_nm, a_tup, a_sub, as_nil, as_cons, x_nil, x_cons, x_set, x_ife, x_ret, x_rais, List.getElem?_cons_zero, List.getElem?_cons_succ, List.length_cons, List.length_nil, List.map_cons, List.map_nil, List.cons_append, List.nil_append, Nat.reduceSub, Nat.reduceAdd, List.replicate_succ, List.replicate_zero, List.set_cons_zero, List.set_cons_succ, Nat.zero_add, Nat.sub_self, b_add, b_sub, b_ge, b_gt, b_le, b_lt, b_eq, b_ne, b_mul, b_fdiv, b_mod, u_abs, u_inti, u_intb, u_gcd, Bool.not_true, Bool.not_false, is_iI, is_iB, is_iL, is_iT, is_iLT, is_iBS, is_bI, is_bB, is_bLT, is_bBS, is_tL, is_tT, is_tLT, is_lL, is_lT, is_lLT, n_i, n_b, b_eqb, b_neb, i_sq, j_tup, j_lst, j_scr, i_zip, j_zip, j_zipT, j_zipL, u_tupleL, u_tupleT, deep_int, deep_bl, List.take_length, u_all2, w_upi, w_upb, w_upt, w_upl, u_len2, u_list2, k_t2, k_t3, m_l1, m_l2, m_l3, m_l4, m_l5, x_tup0, x_tup1, okMul_1, b_eqt, decide_true, decide_false, Bool.true_and, Bool.false_and, e4, r55]) (by omega)
  obtain ⟨e', q⟩ := loopL (cf := cf) (gl := gl) (w := 100000) (n := ((List.range (5 * d.length + 5)).map fun i => D.int ((i : Nat) : Int)).length) (N := d.length) W hf hc ((List.range (5 * d.length + 5)).map fun i => D.int ((i : Nat) : Int)) 0 (((g - d.getD 0 0) / d.length + 3) * d.length) none (by rw [Int.add_mul]; omega) (by rw [Int.add_mul, List.length_map, List.length_range]; omega)
  have q2 := last_s2 hi q
  have q3 : exs (exS (evE cf gl 61) 100000 61) (preL ++ pstL kl) [some (TI d), some (.int g), none, none, none] s = .ok (.ret (.int x)) e' s := by
    rw [exs_app, last_s1 e0 e1 e2 e3, w_sq]
    exact q2
  have q4 : fin s.length (exs (exS (evE cf gl 61) 100000 61) (preL ++ pstL kl) [some (TI d), some (.int g), none, none, none] s) = .ok (.int x) s := by
    rw [q3]
    simp only [w_bind, w_bindx, w_to, w_tox, w_quiet, w_sq, w_sqr, w_sqx, w_lp, w_lpr, w_vw, w_bw, w_fin, w_finx, k_b, k_c2, k_q2, w_or, k_c, k_ht, k_hf, k_h2, k_h, k_at, k_af, k_a, k_ot, k_of, k_o, k_n, k_T2, k_T, k_it, k_if, k_g, k_s, k_x, k_l3, k_l2, k_l, k_e2, k_e, k_as, k_u3, k_u2, k_u, k_set2, k_set, k_ret, k_ift, k_iff, k_wt, k_wf, e_cst, e_var, e_bin, e_neg, e_cmp, e_chain, e_and, e_or, e_not, e_ife, e_call, e_bi, e_isi, e_tup, e_lst, e_ix, e_sl, es_nil, es_cons, e_T, eA_one, eA_cons, eO_one, eO_cons, tr_bl, tr_int, a_nm, a_tup, a_sub, as_nil, as_cons, x_nil, x_cons, x_set, x_ife, x_ret, x_rais, List.getElem?_cons_zero, List.getElem?_cons_succ, List.length_cons, List.length_nil, List.map_cons, List.map_nil, List.cons_append, List.nil_append, Nat.reduceSub, Nat.reduceAdd, List.replicate_succ, List.replicate_zero, List.set_cons_zero, List.set_cons_succ, Nat.zero_add, Nat.sub_self, b_add, b_sub, b_ge, b_gt, b_le, b_lt, b_eq, b_ne, b_mul, b_fdiv, b_mod, u_abs, u_inti, u_intb, u_gcd, Bool.not_true, Bool.not_false, is_iI, is_iB, is_iL, is_iT, is_iLT, is_iBS, is_bI, is_bB, is_bLT, is_bBS, is_tL, is_tT, is_tLT, is_lL, is_lT, is_lLT, n_i, n_b, b_eqb, b_neb, i_sq, j_tup, j_lst, j_scr, i_zip, j_zip, j_zipT, j_zipL, u_tupleL, u_tupleT, deep_int, deep_bl, List.take_length, u_all2, w_upi, w_upb, w_upt, w_upl, u_len2, u_list2, k_t2, k_t3, m_l1, m_l2, m_l3, m_l4, m_l5, x_tup0, x_tup1, okMul_1, b_eqt, decide_true, decide_false, Bool.true_and, Bool.false_and]
  exact q4
theorem last_ok (hk : P[kl]? = some fLawLed) (h : P[k]? = some (fLastLed kl)) (W : Wh d) (hl : d.length ≤ 1000) (hf : isF d (g + 1) (x + 1)) : callF gl P (n + 2) k [TI d, .int g] s = .ok (.int x) s :=
  (callF_at h rfl).trans (last_b (fun z => lawled_ok hk W.pos hl) W hl hf)
end
end Bw

set_option linter.all false
set_option maxRecDepth 100000
set_option maxHeartbeats 1000000
/-! Bw: the backs of a wheel and its mirror, as a law tells them -/
namespace Bw
open PySem
noncomputable def firstI (d : List Int) (g : Int) : Int := Classical.epsilon (isF d g)
theorem firstI_ok {d : List Int} (W : Wh d) (g : Int) : isF d g (firstI d g) := by
  obtain ⟨x, h, _⟩ := first_near W g
  exact Classical.epsilon_spec (p := isF d g) ⟨x, h⟩
def gOf (h : Int → Int) : D → D
  | .int i => .int (h i)
  | d => d
def tabI (N : Nat) (h : Int → Int) : List Int := (List.range N).map fun i : Nat => h (i : Int)
theorem tabI_len (N : Nat) (h : Int → Int) : (tabI N h).length = N := by simp [tabI]
theorem tabI_at {N i : Nat} {h : Int → Int} (l : i < N) : (tabI N h).getD i 0 = h i := by
  rw [List.getD_eq_getElem?_getD]
  unfold tabI
  rw [List.getElem?_map, List.getElem?_range l]
  rfl
theorem gOf_map (N : Nat) (h : Int → Int) : ((List.range N).map fun i : Nat => D.int (i : Int)).map (gOf h) = (tabI N h).map D.int := by
  unfold tabI
  rw [List.map_map, List.map_map]
  apply List.map_congr_left
  intro i _
  rfl
theorem tabI_congr {N : Nat} {h k : Int → Int} (q : ∀ i : Nat, i < N → h i = k i) : tabI N h = tabI N k := by
  unfold tabI
  apply List.map_congr_left
  intro i hi
  exact q i (List.mem_range.mp hi)
section
variable {gl : PySem.Str → Option D} {P : List F} {k kl kf ks n N : Nat} {s : Sto} {d : List Int} {z g x : Int} {cf : CF} {el c : C} {own : List Nat} {t : T} {it : It} {e : En} {h : Int → Int} {l : List Int}
theorem comp_tab (hi : evIt (evE cf gl n) it e s = .ok (none, (List.range N).map fun i => D.int ((i : Nat) : Int)) s) (hN : N ≤ lim)
    (q : ∀ i : Nat, i < N → ∀ s1 : Sto, ∃ e1, asg (evE cf gl n) t (.int (i : Int)) (wipeE e own) s1 = .ok e1 s1 ∧ evE cf gl n el e1 s1 = .ok (.int (h i)) s1) :
    evE cf gl (n + 1) (.comp false el own t it none) e s = .ok (.lst ((tabI N h).map D.int)) s := by
  have r := comp_val (cf := cf) (gl := gl) (el := el) (own := own) (t := t) (g := gOf h) hi (by rw [List.length_map, List.length_range]; exact hN) (fun x hx s1 => by
      obtain ⟨i, hi, rfl⟩ := List.mem_map.mp hx
      obtain ⟨e1, a1, a2⟩ := q i (List.mem_range.mp hi) s1
      exact ⟨e1, a1, a2, rfl⟩)
  rw [gOf_map] at r
  exact r
theorem ret_tab (q : evE cf gl 60 c e s = .ok (.lst (l.map D.int)) s) : fin s.length (exs (exS (evE cf gl 61) 100000 61) [.ret (.bi .tuple [c])] e s) = .ok (TI l) s := by
  simp only [w_bind, w_bindx, w_to, w_tox, w_quiet, w_sq, w_sqr, w_sqx, w_lp, w_lpr, w_vw, w_bw, w_fin, w_finx, k_b, k_c2, k_q2, w_or, k_c, k_ht, k_hf, k_h2, k_h, k_at, k_af, k_a, k_ot, k_of, k_o, k_n, k_T2, k_T, k_it, k_if, k_g, k_s, k_x, k_l3, k_l2, k_l, k_e2, k_e, k_as, k_u3, k_u2, k_u, k_set2, k_set, k_ret, k_ift, k_iff, k_wt, k_wf, e_cst, e_var, e_bin, e_neg, e_cmp, e_chain, e_and, e_or, e_not, e_ife, e_call, e_bi, e_isi, e_tup, e_lst, e_ix, e_sl, es_nil, es_cons, e_T, eA_one, eA_cons, eO_one, eO_cons, tr_bl, tr_int, a_nm, a_tup, a_sub, as_nil, as_cons, x_nil, x_cons, x_set, x_ife, x_ret, x_rais, List.getElem?_cons_zero, List.getElem?_cons_succ, List.length_cons, List.length_nil, List.map_cons, List.map_nil, List.cons_append, List.nil_append, Nat.reduceSub, Nat.reduceAdd, List.replicate_succ, List.replicate_zero, List.set_cons_zero, List.set_cons_succ, Nat.zero_add, Nat.sub_self, b_add, b_sub, b_ge, b_gt, b_le, b_lt, b_eq, b_ne, b_mul, b_fdiv, b_mod, u_abs, u_inti, u_intb, u_gcd, Bool.not_true, Bool.not_false, is_iI, is_iB, is_iL, is_iT, is_iLT, is_iBS, is_bI, is_bB, is_bLT, is_bBS, is_tL, is_tT, is_tLT, is_lL, is_lT, is_lLT, n_i, n_b, b_eqb, b_neb, i_sq, j_tup, j_lst, j_scr, i_zip, j_zip, j_zipT, j_zipL, u_tupleL, u_tupleT, deep_int, deep_bl, List.take_length, u_all2, w_upi, w_upb, w_upt, w_upl, u_len2, u_list2, k_t2, k_t3, m_l1, m_l2, m_l3, m_l4, m_l5, x_tup0, x_tup1, okMul_1, b_eqt, decide_true, decide_false, Bool.true_and, Bool.false_and, q]
  exact back_TI' _ s
theorem rg_len {i : Nat} (h : evE cf gl (n + 1) (.var i) e s = .ok (TI d) s) (hl : d.length ≤ 1000) : evIt (evE cf gl (n + 2)) (.rg1 (.bi .len [.var i])) e s = .ok (none, (List.range d.length).map fun i => D.int ((i : Nat) : Int)) s := rg1_ok (by simp only [w_bind, w_bindx, w_to, w_tox, w_quiet, w_sq, w_sqr, w_sqx, w_lp, w_lpr, w_vw, w_bw, w_fin, w_finx, k_b, k_c2, k_q2, w_or, k_c, k_ht, k_hf, k_h2, k_h, k_at, k_af, k_a, k_ot, k_of, k_o, k_n, k_T2, k_T, k_it, k_if, k_g, k_s, k_x, k_l3, k_l2, k_l, k_e2, k_e, k_as, k_u3, k_u2, k_u, k_set2, k_set, k_ret, k_ift, k_iff, k_wt, k_wf, e_cst, e_var, e_bin, e_neg, e_cmp, e_chain, e_and, e_or, e_not, e_ife, e_call, e_bi, e_isi, e_tup, e_lst, e_ix, e_sl, es_nil, es_cons, e_T, eA_one, eA_cons, eO_one, eO_cons, tr_bl, tr_int, a_nm, a_tup, a_sub, as_nil, as_cons, x_nil, x_cons, x_set, x_ife, x_ret, x_rais, List.getElem?_cons_zero, List.getElem?_cons_succ, List.length_cons, List.length_nil, List.map_cons, List.map_nil, List.cons_append, List.nil_append, Nat.reduceSub, Nat.reduceAdd, List.replicate_succ, List.replicate_zero, List.set_cons_zero, List.set_cons_succ, Nat.zero_add, Nat.sub_self, b_add, b_sub, b_ge, b_gt, b_le, b_lt, b_eq, b_ne, b_mul, b_fdiv, b_mod, u_abs, u_inti, u_intb, u_gcd, Bool.not_true, Bool.not_false, is_iI, is_iB, is_iL, is_iT, is_iLT, is_iBS, is_bI, is_bB, is_bLT, is_bBS, is_tL, is_tT, is_tLT, is_lL, is_lT, is_lLT, n_i, n_b, b_eqb, b_neb, i_sq, j_tup, j_lst, j_scr, i_zip, j_zip, j_zipT, j_zipL, u_tupleL, u_tupleT, deep_int, deep_bl, List.take_length, u_all2, w_upi, w_upb, w_upt, w_upl, u_len2, u_list2, k_t2, k_t3, m_l1, m_l2, m_l3, m_l4, m_l5, x_tup0, x_tup1, okMul_1, b_eqt, decide_true, decide_false, Bool.true_and, Bool.false_and, h, u_lenT, List.length_map]) (by omega)
def fLawBack (nm : String) (kk : Nat) : F := ⟨nm, ["disk"], ["disk", "k"], [
  (.ret (.bi .tuple [(.comp false (.call kk [(.var 0), (.var 1)]) [1] (.nm 1) (.rg1 (.bi .len [(.var 0)])) none)]))], 61, 100000⟩
def fGlass (kk : Nat) : F := ⟨"_law_glass", ["disk"], ["disk", "k"], [
  (.ret (.bi .tuple [(.comp false (.neg (.call kk [(.var 0), (.neg (.var 1))])) [1] (.nm 1) (.rg1 (.bi .len [(.var 0)])) none)]))], 61, 100000⟩
theorem lawback_b {kk : Nat} (hl : d.length ≤ 1000) (hc : ∀ (i : Nat) (s : Sto), cf kk [TI d, .int (i : Int)] s = .ok (.int (h i)) s) : fin s.length (exs (exS (evE cf gl 61) 100000 61) [.ret (.bi .tuple [(.comp false (.call kk [(.var 0), (.var 1)]) [1] (.nm 1) (.rg1 (.bi .len [(.var 0)])) none)])] [some (TI d), none] s) = .ok (TI (tabI d.length h)) s :=
  ret_tab (comp_tab (rg_len (by simp only [w_bind, w_bindx, w_to, w_tox, w_quiet, w_sq, w_sqr, w_sqx, w_lp, w_lpr, w_vw, w_bw, w_fin, w_finx, k_b, k_c2, k_q2, w_or, k_c, k_ht, k_hf, k_h2, k_h, k_at, k_af, k_a, k_ot, k_of, k_o, k_n, k_T2, k_T, k_it, k_if, k_g, k_s, k_x, k_l3, k_l2, k_l, k_e2, k_e, k_as, k_u3, k_u2, k_u, k_set2, k_set, k_ret, k_ift, k_iff, k_wt, k_wf, e_cst, e_var, e_bin, e_neg, e_cmp, e_chain, e_and, e_or, e_not, e_ife, e_call, e_bi, e_isi, e_tup, e_lst, e_ix, e_sl, es_nil, es_cons, e_T, eA_one, eA_cons, eO_one, eO_cons, tr_bl, tr_int, a_nm, a_tup, a_sub, as_nil, as_cons, x_nil, x_cons, x_set, x_ife, x_ret, x_rais, List.getElem?_cons_zero, List.getElem?_cons_succ, List.length_cons, List.length_nil, List.map_cons, List.map_nil, List.cons_append, List.nil_append, Nat.reduceSub, Nat.reduceAdd, List.replicate_succ, List.replicate_zero, List.set_cons_zero, List.set_cons_succ, Nat.zero_add, Nat.sub_self, b_add, b_sub, b_ge, b_gt, b_le, b_lt, b_eq, b_ne, b_mul, b_fdiv, b_mod, u_abs, u_inti, u_intb, u_gcd, Bool.not_true, Bool.not_false, is_iI, is_iB, is_iL, is_iT, is_iLT, is_iBS, is_bI, is_bB, is_bLT, is_bBS, is_tL, is_tT, is_tLT, is_lL, is_lT, is_lLT, n_i, n_b, b_eqb, b_neb, i_sq, j_tup, j_lst, j_scr, i_zip, j_zip, j_zipT, j_zipL, u_tupleL, u_tupleT, deep_int, deep_bl, List.take_length, u_all2, w_upi, w_upb, w_upt, w_upl, u_len2, u_list2, k_t2, k_t3, m_l1, m_l2, m_l3, m_l4, m_l5, x_tup0, x_tup1, okMul_1, b_eqt, decide_true, decide_false, Bool.true_and, Bool.false_and]) hl) (Nat.le_trans hl (by decide)) (fun i _ s1 => ⟨_, a_nm _ _ _ _ _, by simp only [wipeE, w_bind, w_bindx, w_to, w_tox, w_quiet, w_sq, w_sqr, w_sqx, w_lp, w_lpr, w_vw, w_bw, w_fin, w_finx, k_b, k_c2, k_q2, w_or, k_c, k_ht, k_hf, k_h2, k_h, k_at, k_af, k_a, k_ot, k_of, k_o, k_n, k_T2, k_T, k_it, k_if, k_g, k_s, k_x, k_l3, k_l2, k_l, k_e2, k_e, k_as, k_u3, k_u2, k_u, k_set2, k_set, k_ret, k_ift, k_iff, k_wt, k_wf, e_cst, e_var, e_bin, e_neg, e_cmp, e_chain, e_and, e_or, e_not, e_ife, e_call, e_bi, e_isi, e_tup, e_lst, e_ix, e_sl, es_nil, es_cons, e_T, eA_one, eA_cons, eO_one, eO_cons, tr_bl, tr_int, a_nm, a_tup, a_sub, as_nil, as_cons, x_nil, x_cons, x_set, x_ife, x_ret, x_rais, List.getElem?_cons_zero, List.getElem?_cons_succ, List.length_cons, List.length_nil, List.map_cons, List.map_nil, List.cons_append, List.nil_append, Nat.reduceSub, Nat.reduceAdd, List.replicate_succ, List.replicate_zero, List.set_cons_zero, List.set_cons_succ, Nat.zero_add, Nat.sub_self, b_add, b_sub, b_ge, b_gt, b_le, b_lt, b_eq, b_ne, b_mul, b_fdiv, b_mod, u_abs, u_inti, u_intb, u_gcd, Bool.not_true, Bool.not_false, is_iI, is_iB, is_iL, is_iT, is_iLT, is_iBS, is_bI, is_bB, is_bLT, is_bBS, is_tL, is_tT, is_tLT, is_lL, is_lT, is_lLT, n_i, n_b, b_eqb, b_neb, i_sq, j_tup, j_lst, j_scr, i_zip, j_zip, j_zipT, j_zipL, u_tupleL, u_tupleT, deep_int, deep_bl, List.take_length, u_all2, w_upi, w_upb, w_upt, w_upl, u_len2, u_list2, k_t2, k_t3, m_l1, m_l2, m_l3, m_l4, m_l5, x_tup0, x_tup1, okMul_1, b_eqt, decide_true, decide_false, Bool.true_and, Bool.false_and, hc]⟩))
theorem lawback_ok {nm : String} {kk : Nat} (hk : P[k]? = some (fLawBack nm kk)) (hl : d.length ≤ 1000) (hc : ∀ (i : Nat) (s : Sto), callF gl P n kk [TI d, .int (i : Int)] s = .ok (.int (h i)) s) : callF gl P (n + 1) k [TI d] s = .ok (TI (tabI d.length h)) s :=
  (callF_at hk rfl).trans (lawback_b hl hc)
theorem glass_b {kk : Nat} (hl : d.length ≤ 1000) (hc : ∀ (z : Int) (s : Sto), cf kk [TI d, .int z] s = .ok (.int (ledI d z)) s) : fin s.length (exs (exS (evE cf gl 61) 100000 61) [.ret (.bi .tuple [(.comp false (.neg (.call kk [(.var 0), (.neg (.var 1))])) [1] (.nm 1) (.rg1 (.bi .len [(.var 0)])) none)])] [some (TI d), none] s) = .ok (TI (tabI d.length fun i => -ledI d (-i))) s :=
  ret_tab (comp_tab (rg_len (by simp only [w_bind, w_bindx, w_to, w_tox, w_quiet, w_sq, w_sqr, w_sqx, w_lp, w_lpr, w_vw, w_bw, w_fin, w_finx, k_b, k_c2, k_q2, w_or, k_c, k_ht, k_hf, k_h2, k_h, k_at, k_af, k_a, k_ot, k_of, k_o, k_n, k_T2, k_T, k_it, k_if, k_g, k_s, k_x, k_l3, k_l2, k_l, k_e2, k_e, k_as, k_u3, k_u2, k_u, k_set2, k_set, k_ret, k_ift, k_iff, k_wt, k_wf, e_cst, e_var, e_bin, e_neg, e_cmp, e_chain, e_and, e_or, e_not, e_ife, e_call, e_bi, e_isi, e_tup, e_lst, e_ix, e_sl, es_nil, es_cons, e_T, eA_one, eA_cons, eO_one, eO_cons, tr_bl, tr_int, a_nm, a_tup, a_sub, as_nil, as_cons, x_nil, x_cons, x_set, x_ife, x_ret, x_rais, List.getElem?_cons_zero, List.getElem?_cons_succ, List.length_cons, List.length_nil, List.map_cons, List.map_nil, List.cons_append, List.nil_append, Nat.reduceSub, Nat.reduceAdd, List.replicate_succ, List.replicate_zero, List.set_cons_zero, List.set_cons_succ, Nat.zero_add, Nat.sub_self, b_add, b_sub, b_ge, b_gt, b_le, b_lt, b_eq, b_ne, b_mul, b_fdiv, b_mod, u_abs, u_inti, u_intb, u_gcd, Bool.not_true, Bool.not_false, is_iI, is_iB, is_iL, is_iT, is_iLT, is_iBS, is_bI, is_bB, is_bLT, is_bBS, is_tL, is_tT, is_tLT, is_lL, is_lT, is_lLT, n_i, n_b, b_eqb, b_neb, i_sq, j_tup, j_lst, j_scr, i_zip, j_zip, j_zipT, j_zipL, u_tupleL, u_tupleT, deep_int, deep_bl, List.take_length, u_all2, w_upi, w_upb, w_upt, w_upl, u_len2, u_list2, k_t2, k_t3, m_l1, m_l2, m_l3, m_l4, m_l5, x_tup0, x_tup1, okMul_1, b_eqt, decide_true, decide_false, Bool.true_and, Bool.false_and]) hl) (Nat.le_trans hl (by decide)) (fun i _ s1 => ⟨_, a_nm _ _ _ _ _, by simp only [wipeE, w_bind, w_bindx, w_to, w_tox, w_quiet, w_sq, w_sqr, w_sqx, w_lp, w_lpr, w_vw, w_bw, w_fin, w_finx, k_b, k_c2, k_q2, w_or, k_c, k_ht, k_hf, k_h2, k_h, k_at, k_af, k_a, k_ot, k_of, k_o, k_n, k_T2, k_T, k_it, k_if, k_g, k_s, k_x, k_l3, k_l2, k_l, k_e2, k_e, k_as, k_u3, k_u2, k_u, k_set2, k_set, k_ret, k_ift, k_iff, k_wt, k_wf, e_cst, e_var, e_bin, e_neg, e_cmp, e_chain, e_and, e_or, e_not, e_ife, e_call, e_bi, e_isi, e_tup, e_lst, e_ix, e_sl, es_nil, es_cons, e_T, eA_one, eA_cons, eO_one, eO_cons, tr_bl, tr_int, a_nm, a_tup, a_sub, as_nil, as_cons, x_nil, x_cons, x_set, x_ife, x_ret, x_rais, List.getElem?_cons_zero, List.getElem?_cons_succ, List.length_cons, List.length_nil, List.map_cons, List.map_nil, List.cons_append, List.nil_append, Nat.reduceSub, Nat.reduceAdd, List.replicate_succ, List.replicate_zero, List.set_cons_zero, List.set_cons_succ, Nat.zero_add, Nat.sub_self, b_add, b_sub, b_ge, b_gt, b_le, b_lt, b_eq, b_ne, b_mul, b_fdiv, b_mod, u_abs, u_inti, u_intb, u_gcd, Bool.not_true, Bool.not_false, is_iI, is_iB, is_iL, is_iT, is_iLT, is_iBS, is_bI, is_bB, is_bLT, is_bBS, is_tL, is_tT, is_tLT, is_lL, is_lT, is_lLT, n_i, n_b, b_eqb, b_neb, i_sq, j_tup, j_lst, j_scr, i_zip, j_zip, j_zipT, j_zipL, u_tupleL, u_tupleT, deep_int, deep_bl, List.take_length, u_all2, w_upi, w_upb, w_upt, w_upl, u_len2, u_list2, k_t2, k_t3, m_l1, m_l2, m_l3, m_l4, m_l5, x_tup0, x_tup1, okMul_1, b_eqt, decide_true, decide_false, Bool.true_and, Bool.false_and, hc]⟩))
theorem glass_ok {kk : Nat} (hk : P[k]? = some (fGlass kk)) (hl : d.length ≤ 1000) (hc : ∀ (z : Int) (s : Sto), callF gl P n kk [TI d, .int z] s = .ok (.int (ledI d z)) s) : callF gl P (n + 1) k [TI d] s = .ok (TI (tabI d.length fun i => -ledI d (-i))) s :=
  (callF_at hk rfl).trans (glass_b hl hc)
/-- the program's -/
def fMirr (ks kl : Nat) : F := ⟨"mirrored", ["wheel"], ["wheel", "told", "place"], [
  (.set (.nm 1) (.call ks [(.var 0)])),
  (.ret (.bi .tuple [(.comp false (.neg (.call kl [(.var 1), (.neg (.var 2))])) [2] (.nm 2) (.rg1 (.bi .len [(.var 1)])) none)]))], 61, 100000⟩
def fLastBack (kf kl : Nat) : F := ⟨"last_back", ["wheel"], ["wheel", "back", "place"], [
  (.set (.nm 1) (.call kf [(.var 0)])),
  (.ret (.bi .tuple [(.comp false (.bin .sub (.call kl [(.var 1), (.bin .add (.var 2) (.cst (D.int (1))))]) (.cst (D.int (1)))) [2] (.nm 2) (.rg1 (.bi .len [(.var 1)])) none)]))], 61, 100000⟩
theorem set_then {v a : D} {j : Nat} {B : List S} {r : R D} (h1 : cf j [a] s = .ok v s) (h2 : fin s.length (exs (exS (evE cf gl 61) 100000 61) B [some a, some v, none] s) = r) : fin s.length (exs (exS (evE cf gl 61) 100000 61) ([.set (.nm 1) (.call j [.var 0])] ++ B) [some a, none, none] s) = r := by
  have q : exs (exS (evE cf gl 61) 100000 61) [.set (.nm 1) (.call j [.var 0])] [some a, none, none] s = .ok .next [some a, some v, none] s := by
    simp only [w_bind, w_bindx, w_to, w_tox, w_quiet, w_sq, w_sqr, w_sqx, w_lp, w_lpr, w_vw, w_bw, w_fin, w_finx, k_b, k_c2, k_q2, w_or, k_c, k_ht, k_hf, k_h2, k_h, k_at, k_af, k_a, k_ot, k_of, k_o, k_n, k_T2, k_T, k_it, k_if, k_g, k_s, k_x, k_l3, k_l2, k_l, k_e2, k_e, k_as, k_u3, k_u2, k_u, k_set2, k_set, k_ret, k_ift, k_iff, k_wt, k_wf, e_cst, e_var, e_bin, e_neg, e_cmp, e_chain, e_and, e_or, e_not, e_ife, e_call, e_bi, e_isi, e_tup, e_lst, e_ix, e_sl, es_nil, es_cons, e_T, eA_one, eA_cons, eO_one, eO_cons, tr_bl, tr_int, a_nm, a_tup, a_sub, as_nil, as_cons, x_nil, x_cons, x_set, x_ife, x_ret, x_rais, List.getElem?_cons_zero, List.getElem?_cons_succ, List.length_cons, List.length_nil, List.map_cons, List.map_nil, List.cons_append, List.nil_append, Nat.reduceSub, Nat.reduceAdd, List.replicate_succ, List.replicate_zero, List.set_cons_zero, List.set_cons_succ, Nat.zero_add, Nat.sub_self, b_add, b_sub, b_ge, b_gt, b_le, b_lt, b_eq, b_ne, b_mul, b_fdiv, b_mod, u_abs, u_inti, u_intb, u_gcd, Bool.not_true, Bool.not_false, is_iI, is_iB, is_iL, is_iT, is_iLT, is_iBS, is_bI, is_bB, is_bLT, is_bBS, is_tL, is_tT, is_tLT, is_lL, is_lT, is_lLT, n_i, n_b, b_eqb, b_neb, i_sq, j_tup, j_lst, j_scr, i_zip, j_zip, j_zipT, j_zipL, u_tupleL, u_tupleT, deep_int, deep_bl, List.take_length, u_all2, w_upi, w_upb, w_upt, w_upl, u_len2, u_list2, k_t2, k_t3, m_l1, m_l2, m_l3, m_l4, m_l5, x_tup0, x_tup1, okMul_1, b_eqt, decide_true, decide_false, Bool.true_and, Bool.false_and, h1]
  rw [exs_app, q, w_sq]
  exact h2
theorem mirr_ok {a : D} (hk : P[k]? = some (fMirr ks kl)) (hl : d.length ≤ 1000) (hs : callF gl P n ks [a] s = .ok (TI d) s) (hc : ∀ (z : Int) (s : Sto), callF gl P n kl [TI d, .int z] s = .ok (.int (ledI d z)) s) : callF gl P (n + 1) k [a] s = .ok (TI (tabI d.length fun i => -ledI d (-i))) s :=
  (callF_at hk rfl).trans (set_then hs (ret_tab (comp_tab (rg_len (by simp only [w_bind, w_bindx, w_to, w_tox, w_quiet, w_sq, w_sqr, w_sqx, w_lp, w_lpr, w_vw, w_bw, w_fin, w_finx, k_b, k_c2, k_q2, w_or, k_c, k_ht, k_hf, k_h2, k_h, k_at, k_af, k_a, k_ot, k_of, k_o, k_n, k_T2, k_T, k_it, k_if, k_g, k_s, k_x, k_l3, k_l2, k_l, k_e2, k_e, k_as, k_u3, k_u2, k_u, k_set2, k_set, k_ret, k_ift, k_iff, k_wt, k_wf, e_cst, e_var, e_bin, e_neg, e_cmp, e_chain, e_and, e_or, e_not, e_ife, e_call, e_bi, e_isi, e_tup, e_lst, e_ix, e_sl, es_nil, es_cons, e_T, eA_one, eA_cons, eO_one, eO_cons, tr_bl, tr_int, a_nm, a_tup, a_sub, as_nil, as_cons, x_nil, x_cons, x_set, x_ife, x_ret, x_rais, List.getElem?_cons_zero, List.getElem?_cons_succ, List.length_cons, List.length_nil, List.map_cons, List.map_nil, List.cons_append, List.nil_append, Nat.reduceSub, Nat.reduceAdd, List.replicate_succ, List.replicate_zero, List.set_cons_zero, List.set_cons_succ, Nat.zero_add, Nat.sub_self, b_add, b_sub, b_ge, b_gt, b_le, b_lt, b_eq, b_ne, b_mul, b_fdiv, b_mod, u_abs, u_inti, u_intb, u_gcd, Bool.not_true, Bool.not_false, is_iI, is_iB, is_iL, is_iT, is_iLT, is_iBS, is_bI, is_bB, is_bLT, is_bBS, is_tL, is_tT, is_tLT, is_lL, is_lT, is_lLT, n_i, n_b, b_eqb, b_neb, i_sq, j_tup, j_lst, j_scr, i_zip, j_zip, j_zipT, j_zipL, u_tupleL, u_tupleT, deep_int, deep_bl, List.take_length, u_all2, w_upi, w_upb, w_upt, w_upl, u_len2, u_list2, k_t2, k_t3, m_l1, m_l2, m_l3, m_l4, m_l5, x_tup0, x_tup1, okMul_1, b_eqt, decide_true, decide_false, Bool.true_and, Bool.false_and]) hl) (Nat.le_trans hl (by decide)) (fun i _ s1 => ⟨_, a_nm _ _ _ _ _, by simp only [wipeE, w_bind, w_bindx, w_to, w_tox, w_quiet, w_sq, w_sqr, w_sqx, w_lp, w_lpr, w_vw, w_bw, w_fin, w_finx, k_b, k_c2, k_q2, w_or, k_c, k_ht, k_hf, k_h2, k_h, k_at, k_af, k_a, k_ot, k_of, k_o, k_n, k_T2, k_T, k_it, k_if, k_g, k_s, k_x, k_l3, k_l2, k_l, k_e2, k_e, k_as, k_u3, k_u2, k_u, k_set2, k_set, k_ret, k_ift, k_iff, k_wt, k_wf, e_cst, e_var, e_bin, e_neg, e_cmp, e_chain, e_and, e_or, e_not, e_ife, e_call, e_bi, e_isi, e_tup, e_lst, e_ix, e_sl, es_nil, es_cons, e_T, eA_one, eA_cons, eO_one, eO_cons, tr_bl, tr_int, a_nm, a_tup, a_sub, as_nil, as_cons, x_nil, x_cons, x_set, x_ife, x_ret, x_rais, List.getElem?_cons_zero, List.getElem?_cons_succ, List.length_cons, List.length_nil, List.map_cons, List.map_nil, List.cons_append, List.nil_append, Nat.reduceSub, Nat.reduceAdd, List.replicate_succ, List.replicate_zero, List.set_cons_zero, List.set_cons_succ, Nat.zero_add, Nat.sub_self, b_add, b_sub, b_ge, b_gt, b_le, b_lt, b_eq, b_ne, b_mul, b_fdiv, b_mod, u_abs, u_inti, u_intb, u_gcd, Bool.not_true, Bool.not_false, is_iI, is_iB, is_iL, is_iT, is_iLT, is_iBS, is_bI, is_bB, is_bLT, is_bBS, is_tL, is_tT, is_tLT, is_lL, is_lT, is_lLT, n_i, n_b, b_eqb, b_neb, i_sq, j_tup, j_lst, j_scr, i_zip, j_zip, j_zipT, j_zipL, u_tupleL, u_tupleT, deep_int, deep_bl, List.take_length, u_all2, w_upi, w_upb, w_upt, w_upl, u_len2, u_list2, k_t2, k_t3, m_l1, m_l2, m_l3, m_l4, m_l5, x_tup0, x_tup1, okMul_1, b_eqt, decide_true, decide_false, Bool.true_and, Bool.false_and, hc]⟩))))
theorem lastback_ok {a : D} {fs : List Int} (hk : P[k]? = some (fLastBack kf kl)) (hl : fs.length ≤ 1000) (hs : callF gl P n kf [a] s = .ok (TI fs) s) (hc : ∀ (z : Int) (s : Sto), callF gl P n kl [TI fs, .int z] s = .ok (.int (ledI fs z)) s) : callF gl P (n + 1) k [a] s = .ok (TI (tabI fs.length fun i => ledI fs (i + 1) - 1)) s :=
  (callF_at hk rfl).trans (set_then hs (ret_tab (comp_tab (rg_len (by simp only [w_bind, w_bindx, w_to, w_tox, w_quiet, w_sq, w_sqr, w_sqx, w_lp, w_lpr, w_vw, w_bw, w_fin, w_finx, k_b, k_c2, k_q2, w_or, k_c, k_ht, k_hf, k_h2, k_h, k_at, k_af, k_a, k_ot, k_of, k_o, k_n, k_T2, k_T, k_it, k_if, k_g, k_s, k_x, k_l3, k_l2, k_l, k_e2, k_e, k_as, k_u3, k_u2, k_u, k_set2, k_set, k_ret, k_ift, k_iff, k_wt, k_wf, e_cst, e_var, e_bin, e_neg, e_cmp, e_chain, e_and, e_or, e_not, e_ife, e_call, e_bi, e_isi, e_tup, e_lst, e_ix, e_sl, es_nil, es_cons, e_T, eA_one, eA_cons, eO_one, eO_cons, tr_bl, tr_int, a_nm, a_tup, a_sub, as_nil, as_cons, x_nil, x_cons, x_set, x_ife, x_ret, x_rais, List.getElem?_cons_zero, List.getElem?_cons_succ, List.length_cons, List.length_nil, List.map_cons, List.map_nil, List.cons_append, List.nil_append, Nat.reduceSub, Nat.reduceAdd, List.replicate_succ, List.replicate_zero, List.set_cons_zero, List.set_cons_succ, Nat.zero_add, Nat.sub_self, b_add, b_sub, b_ge, b_gt, b_le, b_lt, b_eq, b_ne, b_mul, b_fdiv, b_mod, u_abs, u_inti, u_intb, u_gcd, Bool.not_true, Bool.not_false, is_iI, is_iB, is_iL, is_iT, is_iLT, is_iBS, is_bI, is_bB, is_bLT, is_bBS, is_tL, is_tT, is_tLT, is_lL, is_lT, is_lLT, n_i, n_b, b_eqb, b_neb, i_sq, j_tup, j_lst, j_scr, i_zip, j_zip, j_zipT, j_zipL, u_tupleL, u_tupleT, deep_int, deep_bl, List.take_length, u_all2, w_upi, w_upb, w_upt, w_upl, u_len2, u_list2, k_t2, k_t3, m_l1, m_l2, m_l3, m_l4, m_l5, x_tup0, x_tup1, okMul_1, b_eqt, decide_true, decide_false, Bool.true_and, Bool.false_and]) hl) (Nat.le_trans hl (by decide)) (fun i _ s1 => ⟨_, a_nm _ _ _ _ _, by simp only [wipeE, w_bind, w_bindx, w_to, w_tox, w_quiet, w_sq, w_sqr, w_sqx, w_lp, w_lpr, w_vw, w_bw, w_fin, w_finx, k_b, k_c2, k_q2, w_or, k_c, k_ht, k_hf, k_h2, k_h, k_at, k_af, k_a, k_ot, k_of, k_o, k_n, k_T2, k_T, k_it, k_if, k_g, k_s, k_x, k_l3, k_l2, k_l, k_e2, k_e, k_as, k_u3, k_u2, k_u, k_set2, k_set, k_ret, k_ift, k_iff, k_wt, k_wf, e_cst, e_var, e_bin, e_neg, e_cmp, e_chain, e_and, e_or, e_not, e_ife, e_call, e_bi, e_isi, e_tup, e_lst, e_ix, e_sl, es_nil, es_cons, e_T, eA_one, eA_cons, eO_one, eO_cons, tr_bl, tr_int, a_nm, a_tup, a_sub, as_nil, as_cons, x_nil, x_cons, x_set, x_ife, x_ret, x_rais, List.getElem?_cons_zero, List.getElem?_cons_succ, List.length_cons, List.length_nil, List.map_cons, List.map_nil, List.cons_append, List.nil_append, Nat.reduceSub, Nat.reduceAdd, List.replicate_succ, List.replicate_zero, List.set_cons_zero, List.set_cons_succ, Nat.zero_add, Nat.sub_self, b_add, b_sub, b_ge, b_gt, b_le, b_lt, b_eq, b_ne, b_mul, b_fdiv, b_mod, u_abs, u_inti, u_intb, u_gcd, Bool.not_true, Bool.not_false, is_iI, is_iB, is_iL, is_iT, is_iLT, is_iBS, is_bI, is_bB, is_bLT, is_bBS, is_tL, is_tT, is_tLT, is_lL, is_lT, is_lLT, n_i, n_b, b_eqb, b_neb, i_sq, j_tup, j_lst, j_scr, i_zip, j_zip, j_zipT, j_zipL, u_tupleL, u_tupleT, deep_int, deep_bl, List.take_length, u_all2, w_upi, w_upb, w_upt, w_upl, u_len2, u_list2, k_t2, k_t3, m_l1, m_l2, m_l3, m_l4, m_l5, x_tup0, x_tup1, okMul_1, b_eqt, decide_true, decide_false, Bool.true_and, Bool.false_and, hc]⟩))))
end
end Bw

set_option linter.all false
set_option maxRecDepth 100000
set_option maxHeartbeats 1000000
/-! Bw: the program's first back -/
namespace Bw
open PySem
def bodyW : List S := [(.aug 3 .add (.cst (D.int (1))))]
def condW (kl : Nat) : C := .cmp .lt (.call kl [(.var 1), (.var 3)]) (.var 5)
def bodyB (kl : Nat) : List S := [(.whl (condW kl) bodyW), (.app (.var 4) (.var 3))]
def preB (ks : Nat) : List S := [(.set (.nm 1) (.call ks [(.var 0)])),
  (.set (.nm 2) (.bi .len [(.var 1)])),
  (.set (.nm 3) (.bin .mul (.bin .sub (.neg (.bin .fdiv (.ix (.var 1) (.cst (D.int (0)))) (.var 2))) (.cst (D.int (1)))) (.var 2))),
  (.set (.nm 4) (.lst true []))]
def fFirstBack (ks kl : Nat) : F := ⟨"first_back", ["wheel"], ["wheel", "told", "places", "at", "found", "goal"], [
  (.set (.nm 1) (.call ks [(.var 0)])),
  (.set (.nm 2) (.bi .len [(.var 1)])),
  (.set (.nm 3) (.bin .mul (.bin .sub (.neg (.bin .fdiv (.ix (.var 1) (.cst (D.int (0)))) (.var 2))) (.cst (D.int (1)))) (.var 2))),
  (.set (.nm 4) (.lst true [])),
  (.for_ (.nm 5) (.rg1 (.var 2)) (bodyB kl)),
  (.ret (.bi .tuple [(.var 4)]))], 61, 100000⟩
section
variable {gl : PySem.Str → Option D} {P : List F} {k kl ks n w N : Nat} {s : Sto} {d : List Int} {z g x : Int} {cf : CF} {a e0 e2 e4 : Option D}
theorem aug_one {S : Sto} {z : Int} {e5 : Option D} : exs (exS (evE cf gl 61) w 59) bodyW [e0, a, e2, some (.int z), e4, e5] S = .ok .next [e0, a, e2, some (.int (z + 1)), e4, e5] S := by
  rfl
theorem whl_ok {S : Sto} (W : Wh d) (hf : isF d g x) (hc : ∀ z S, cf kl [TI d, .int z] S = .ok (.int (ledI d z)) S) : ∀ (w0 : Nat) (k : Int), k ≤ x → x - k < w0 →
    exWhl (evE cf gl 61) (exS (evE cf gl 61) w 59) (condW kl) bodyW w0 [e0, some (TI d), e2, some (.int k), e4, some (.int g)] S = .ok .next [e0, some (TI d), e2, some (.int x), e4, some (.int g)] S
  | 0, k, h1, h2 => by omega
  | w0 + 1, k, h1, h2 => by
    have i := isF_iff W hf k
    have t : ∀ b, decide (ledI d k < g) = b → evT (evE cf gl 61) (condW kl) [e0, some (TI d), e2, some (.int k), e4, some (.int g)] S = .ok b S := by
      intro b hb
      simp only [condW, w_bind, w_bindx, w_to, w_tox, w_quiet, w_sq, w_sqr, w_sqx, w_lp, w_lpr, w_vw, w_bw, w_fin, w_finx, k_b, k_c2, k_q2, w_or, k_c, k_ht, k_hf, k_h2, k_h, k_at, k_af, k_a, k_ot, k_of, k_o, k_n, k_T2, k_T, k_it, k_if, k_g, k_s, k_x, k_l3, k_l2, k_l, k_e2, k_e, k_as, k_u3, k_u2, k_u, k_set2, k_set, k_ret, k_ift, k_iff, k_wt, k_wf, e_cst, e_var, e_bin, e_neg, e_cmp, e_chain, e_and, e_or, e_not, e_ife, e_call, e_bi, e_isi, e_tup, e_lst, e_ix, e_sl, es_nil, es_cons, e_T, eA_one, eA_cons, eO_one, eO_cons, tr_bl, tr_int, a_nm, a_tup, a_sub, as_nil, as_cons, x_nil, x_cons, x_set, x_ife, x_ret, x_rais, List.getElem?_cons_zero, List.getElem?_cons_succ, List.length_cons, List.length_nil, List.map_cons, List.map_nil, List.cons_append, List.nil_append, Nat.reduceSub, Nat.reduceAdd, List.replicate_succ, List.replicate_zero, List.set_cons_zero, List.set_cons_succ, Nat.zero_add, Nat.sub_self, b_add, b_sub, b_ge, b_gt, b_le, b_lt, b_eq, b_ne, b_mul, b_fdiv, b_mod, u_abs, u_inti, u_intb, u_gcd, Bool.not_true, Bool.not_false, is_iI, is_iB, is_iL, is_iT, is_iLT, is_iBS, is_bI, is_bB, is_bLT, is_bBS, is_tL, is_tT, is_tLT, is_lL, is_lT, is_lLT, n_i, n_b, b_eqb, b_neb, i_sq, j_tup, j_lst, j_scr, i_zip, j_zip, j_zipT, j_zipL, u_tupleL, u_tupleT, deep_int, deep_bl, List.take_length, u_all2, w_upi, w_upb, w_upt, w_upl, u_len2, u_list2, k_t2, k_t3, m_l1, m_l2, m_l3, m_l4, m_l5, x_tup0, x_tup1, okMul_1, b_eqt, decide_true, decide_false, Bool.true_and, Bool.false_and, hc, hb]
    rw [whl_go]
    by_cases h : k < x
    · rw [t true (decide_eq_true (by omega)), w_to]
      have e1 : Kw (evE cf gl 61) (exS (evE cf gl 61) w 59) (condW kl) bodyW w0 [e0, some (TI d), e2, some (.int k), e4, some (.int g)] true S = lp (exs (exS (evE cf gl 61) w 59) bodyW [e0, some (TI d), e2, some (.int k), e4, some (.int g)] S) (exWhl (evE cf gl 61) (exS (evE cf gl 61) w 59) (condW kl) bodyW w0) := rfl
      rw [e1, aug_one, w_lp]
      exact whl_ok W hf hc w0 (k + 1) (by omega) (by omega)
    · have e : k = x := by omega
      subst e
      rw [t false (decide_eq_false (by omega)), w_to]
      rfl
/-- the firsts of two goals beside each other are no more than a ring apart -/
theorem firstI_next (W : Wh d) (g : Int) : firstI d g ≤ firstI d (g + 1) ∧ firstI d (g + 1) ≤ firstI d g + d.length := by
  have h1 := firstI_ok W g
  have h2 := firstI_ok W (g + 1)
  have hp := W.pos
  refine ⟨?_, ?_⟩
  · have := h2.1
    exact (isF_iff W h1 _).mp (by omega)
  · refine (isF_iff W h2 _).mp ?_
    have := ledI_add d hp (firstI d g) 1
    rw [Int.one_mul] at this
    have := h1.1
    omega
theorem turnB {S : Sto} {r : Nat} {acc : List D} {k : Int} (W : Wh d) (hf : isF d g x) (hc : ∀ z S, cf kl [TI d, .int z] S = .ok (.int (ledI d z)) S) (h1 : k ≤ x) (h2 : x - k < 100000) (hr : S[r]? = some (.lst false acc)) (ha : acc.length < lim) :
    exs (exS (evE cf gl 61) 100000 60) (bodyB kl) [e0, some (TI d), e2, some (.int k), some (.ref r), some (.int g)] S = .ok .next [e0, some (TI d), e2, some (.int x), some (.ref r), some (.int g)] (S.set r (.lst false (acc ++ [.int x]))) := by
  unfold bodyB
  have q := whl_ok (gl := gl) (w := 100000) (e0 := e0) (e2 := e2) (e4 := some (.ref r)) (S := S) W hf hc 100000 k h1 h2
  have q2 : exS (evE cf gl 61) 100000 60 (.app (.var 4) (.var 3)) [e0, some (TI d), e2, some (.int x), some (.ref r), some (.int g)] S = .ok .next [e0, some (TI d), e2, some (.int x), some (.ref r), some (.int g)] (S.set r (.lst false (acc ++ [.int x]))) := x_app_ok (by simp only [w_bind, w_bindx, w_to, w_tox, w_quiet, w_sq, w_sqr, w_sqx, w_lp, w_lpr, w_vw, w_bw, w_fin, w_finx, k_b, k_c2, k_q2, w_or, k_c, k_ht, k_hf, k_h2, k_h, k_at, k_af, k_a, k_ot, k_of, k_o, k_n, k_T2, k_T, k_it, k_if, k_g, k_s, k_x, k_l3, k_l2, k_l, k_e2, k_e, k_as, k_u3, k_u2, k_u, k_set2, k_set, k_ret, k_ift, k_iff, k_wt, k_wf, e_cst, e_var, e_bin, e_neg, e_cmp, e_chain, e_and, e_or, e_not, e_ife, e_call, e_bi, e_isi, e_tup, e_lst, e_ix, e_sl, es_nil, es_cons, e_T, eA_one, eA_cons, eO_one, eO_cons, tr_bl, tr_int, a_nm, a_tup, a_sub, as_nil, as_cons, x_nil, x_cons, x_set, x_ife, x_ret, x_rais, List.getElem?_cons_zero, List.getElem?_cons_succ, List.length_cons, List.length_nil, List.map_cons, List.map_nil, List.cons_append, List.nil_append, Nat.reduceSub, Nat.reduceAdd, List.replicate_succ, List.replicate_zero, List.set_cons_zero, List.set_cons_succ, Nat.zero_add, Nat.sub_self, b_add, b_sub, b_ge, b_gt, b_le, b_lt, b_eq, b_ne, b_mul, b_fdiv, b_mod, u_abs, u_inti, u_intb, u_gcd, Bool.not_true, Bool.not_false, is_iI, is_iB, is_iL, is_iT, is_iLT, is_iBS, is_bI, is_bB, is_bLT, is_bBS, is_tL, is_tT, is_tLT, is_lL, is_lT, is_lLT, n_i, n_b, b_eqb, b_neb, i_sq, j_tup, j_lst, j_scr, i_zip, j_zip, j_zipT, j_zipL, u_tupleL, u_tupleT, deep_int, deep_bl, List.take_length, u_all2, w_upi, w_upb, w_upt, w_upl, u_len2, u_list2, k_t2, k_t3, m_l1, m_l2, m_l3, m_l4, m_l5, x_tup0, x_tup1, okMul_1, b_eqt, decide_true, decide_false, Bool.true_and, Bool.false_and]) hr (by simp only [w_bind, w_bindx, w_to, w_tox, w_quiet, w_sq, w_sqr, w_sqx, w_lp, w_lpr, w_vw, w_bw, w_fin, w_finx, k_b, k_c2, k_q2, w_or, k_c, k_ht, k_hf, k_h2, k_h, k_at, k_af, k_a, k_ot, k_of, k_o, k_n, k_T2, k_T, k_it, k_if, k_g, k_s, k_x, k_l3, k_l2, k_l, k_e2, k_e, k_as, k_u3, k_u2, k_u, k_set2, k_set, k_ret, k_ift, k_iff, k_wt, k_wf, e_cst, e_var, e_bin, e_neg, e_cmp, e_chain, e_and, e_or, e_not, e_ife, e_call, e_bi, e_isi, e_tup, e_lst, e_ix, e_sl, es_nil, es_cons, e_T, eA_one, eA_cons, eO_one, eO_cons, tr_bl, tr_int, a_nm, a_tup, a_sub, as_nil, as_cons, x_nil, x_cons, x_set, x_ife, x_ret, x_rais, List.getElem?_cons_zero, List.getElem?_cons_succ, List.length_cons, List.length_nil, List.map_cons, List.map_nil, List.cons_append, List.nil_append, Nat.reduceSub, Nat.reduceAdd, List.replicate_succ, List.replicate_zero, List.set_cons_zero, List.set_cons_succ, Nat.zero_add, Nat.sub_self, b_add, b_sub, b_ge, b_gt, b_le, b_lt, b_eq, b_ne, b_mul, b_fdiv, b_mod, u_abs, u_inti, u_intb, u_gcd, Bool.not_true, Bool.not_false, is_iI, is_iB, is_iL, is_iT, is_iLT, is_iBS, is_bI, is_bB, is_bLT, is_bBS, is_tL, is_tT, is_tLT, is_lL, is_lT, is_lLT, n_i, n_b, b_eqb, b_neb, i_sq, j_tup, j_lst, j_scr, i_zip, j_zip, j_zipT, j_zipL, u_tupleL, u_tupleT, deep_int, deep_bl, List.take_length, u_all2, w_upi, w_upb, w_upt, w_upl, u_len2, u_list2, k_t2, k_t3, m_l1, m_l2, m_l3, m_l4, m_l5, x_tup0, x_tup1, okMul_1, b_eqt, decide_true, decide_false, Bool.true_and, Bool.false_and]) hr rfl ha
  rw [x_cons, x_whl, q, w_sq, x_cons, q2, w_sq, x_nil]
theorem loopB {S : Sto} (n0 : Nat) (W : Wh d) (hl : d.length ≤ 1000) (hc : ∀ z S, cf kl [TI d, .int z] S = .ok (.int (ledI d z)) S) : ∀ (m j : Nat) (acc : List D) (k : Int) (e5 : Option D) (t : Nat), k ≤ firstI d j → firstI d j - k < 100000 → acc.length + m ≤ 1000 →
    ∃ k' e5', exFor (evE cf gl 61) (exS (evE cf gl 61) 100000 60) (.nm 5) (bodyB kl) none n0 t ((List.range' j m).map fun i : Nat => D.int (i : Int)) [e0, some (TI d), e2, some (.int k), some (.ref S.length), e5] (S ++ [.lst false acc])
      = .ok .next [e0, some (TI d), e2, some (.int k'), some (.ref S.length), e5'] (S ++ [.lst false (acc ++ (List.range' j m).map fun i : Nat => D.int (firstI d (i : Int)))])
  | 0, j, acc, k, e5, t, h1, h2, h3 => ⟨k, e5, by rw [List.range'_zero, List.map_nil, List.map_nil, List.append_nil]; rfl⟩
  | m + 1, j, acc, k, e5, t, h1, h2, h3 => by
    have f := firstI_next W (j : Int)
    have hr : (S ++ [SO.lst false acc])[S.length]? = some (.lst false acc) := by simp
    have q := turnB (gl := gl) (e0 := e0) (e2 := e2) W (firstI_ok W (j : Int)) hc h1 h2 hr (Nat.lt_of_lt_of_le (show acc.length < 1001 by omega) (by decide))
    have es : (S ++ [SO.lst false acc]).set S.length (.lst false (acc ++ [.int (firstI d j)])) = S ++ [.lst false (acc ++ [.int (firstI d j)])] := by simp
    rw [es] at q
    obtain ⟨k', e5', p⟩ := loopB (S := S) n0 W hl hc m (j + 1) (acc ++ [.int (firstI d j)]) (firstI d j) (some (.int (j : Int))) (t + 1) (by rw [show (((j + 1 : Nat)) : Int) = (j : Int) + 1 by omega]; exact f.1) (by rw [show (((j + 1 : Nat)) : Int) = (j : Int) + 1 by omega]; omega) (by rw [List.length_append, List.length_singleton]; omega)
    refine ⟨k', e5', ?_⟩
    rw [List.range'_succ, List.map_cons, List.map_cons, for_step (e1 := [e0, some (TI d), e2, some (.int k), some (.ref S.length), some (.int (j : Int))]) rfl q, p, List.append_assoc]
    rfl
theorem preB_ok {A : D} (hp : 0 < d.length) (hl : d.length ≤ 1000) (hs : cf ks [A] s = .ok (TI d) s) : exs (exS (evE cf gl 61) 100000 61) (preB ks) [some A, none, none, none, none, none] s = .ok .next [some A, some (TI d), some (.int d.length), some (.int ((-(d.getD 0 0 / d.length) - 1) * d.length)), some (.ref s.length), none] (s ++ [.lst false []]) := by
  have e0 : (0 : Int) < d.length := by omega
  have e1 := get0 (s := s) hp
  have e2 : okDiv (d.length : Int) = true := okDiv_by (by omega) (by omega)
  have e3 : okMul (-(d.getD 0 0 / d.length) - 1) (d.length : Int) = true := okMul_r (by omega) (by omega)
  have mk := m_r [] s (by decide) rfl
  simp only [preB, w_bind, w_bindx, w_to, w_tox, w_quiet, w_sq, w_sqr, w_sqx, w_lp, w_lpr, w_vw, w_bw, w_fin, w_finx, k_b, k_c2, k_q2, w_or, k_c, k_ht, k_hf, k_h2, k_h, k_at, k_af, k_a, k_ot, k_of, k_o, k_n, k_T2, k_T, k_it, k_if, k_g, k_s, k_x, k_l3, k_l2, k_l, k_e2, k_e, k_as, k_u3, k_u2, k_u, k_set2, k_set, k_ret, k_ift, k_iff, k_wt, k_wf, e_cst, e_var, e_bin, e_neg, e_cmp, e_chain, e_and, e_or, e_not, e_ife, e_call, e_bi, e_isi, e_tup, e_lst, e_ix, e_sl, es_nil, es_cons, e_T, eA_one, eA_cons, eO_one, eO_cons, tr_bl, tr_int, a_nm, a_tup, a_sub, as_nil, as_cons, x_nil, x_cons, x_set, x_ife, x_ret, x_rais, List.getElem?_cons_zero, List.getElem?_cons_succ, List.length_cons, List.length_nil, List.map_cons, List.map_nil, List.cons_append, List.nil_append, Nat.reduceSub, Nat.reduceAdd, List.replicate_succ, List.replicate_zero, List.set_cons_zero, List.set_cons_succ, Nat.zero_add, Nat.sub_self, b_add, b_sub, b_ge, b_gt, b_le, b_lt, b_eq, b_ne, b_mul, b_fdiv, b_mod, u_abs, u_inti, u_intb, u_gcd, Bool.not_true, Bool.not_false, is_iI, is_iB, is_iL, is_iT, is_iLT, is_iBS, is_bI, is_bB, is_bLT, is_bBS, is_tL, is_tT, is_tLT, is_lL, is_lT, is_lLT, n_i, n_b, b_eqb, b_neb, i_sq, j_tup, j_lst, j_scr, i_zip, j_zip, j_zipT, j_zipL, u_tupleL, u_tupleT, deep_int, deep_bl, List.take_length, u_all2, w_upi, w_upb, w_upt, w_upl, u_len2, u_list2, k_t2, k_t3, m_l1, m_l2, m_l3, m_l4, m_l5, x_tup0, x_tup1, okMul_1, b_eqt, decide_true, decide_false, Bool.true_and, Bool.false_and, hs, u_lenT, List.length_map, e0, e1, e2, e3, mk]
theorem at0 (W : Wh d) : (-(d.getD 0 0 / d.length) - 1) * d.length ≤ firstI d 0 ∧ firstI d 0 - (-(d.getD 0 0 / d.length) - 1) * d.length ≤ d.length := by
  have hp := W.pos
  have hn : (0 : Int) < d.length := by omega
  have h1 := Int.emod_nonneg (d.getD 0 0) (b := (d.length : Int)) (by omega)
  have h2 := Int.emod_lt_of_pos (d.getD 0 0) hn
  have h3 := Int.mul_ediv_add_emod (d.getD 0 0) d.length
  rw [Int.mul_comm] at h3
  have hf := firstI_ok W 0
  have a1 := ledI_at d hp (-(d.getD 0 0 / d.length) - 1)
  have a2 := ledI_at d hp (-(d.getD 0 0 / d.length))
  have b1 : (-(d.getD 0 0 / d.length) - 1) * (d.length : Int) = -(d.getD 0 0 / d.length * d.length) - d.length := by
    rw [Int.sub_mul, Int.neg_mul, Int.one_mul]
  rw [b1] at a1 ⊢
  rw [Int.neg_mul] at a2
  have c1 := isF_iff W hf (-(d.getD 0 0 / d.length * d.length) - d.length)
  have c2 := (isF_iff W hf (-(d.getD 0 0 / d.length * d.length))).mp (by omega)
  by_cases l : firstI d 0 ≤ -(d.getD 0 0 / (d.length : Int) * d.length) - d.length
  · have := c1.mpr l
    omega
  · omega
theorem u_tupR {r : Nat} {lk : Bool} {xs : List D} (h : s[r]? = some (.lst lk xs)) : biD .tuple [.ref r] s = .ok (.tup xs) s := by
  show (match items s (.ref r) with
    | some xs => R.ok (D.tup xs) s
    | none => .fail) = _
  simp only [items, h]
theorem back_app (d : List Int) (s : Sto) (o : SO) : back s.length (TI d) (s ++ [o]) = .ok (TI d) s := by
  rw [back_TI, List.take_left']
  rfl
theorem postB_ok {A : D} {k : Int} (W : Wh d) (hl : d.length ≤ 1000) (hc : ∀ z S, cf kl [TI d, .int z] S = .ok (.int (ledI d z)) S) (h1 : k ≤ firstI d 0) (h2 : firstI d 0 - k < 100000) :
    fin s.length (exs (exS (evE cf gl 61) 100000 61) [(.for_ (.nm 5) (.rg1 (.var 2)) (bodyB kl)), (.ret (.bi .tuple [(.var 4)]))] [some A, some (TI d), some (.int d.length), some (.int k), some (.ref s.length), none] (s ++ [.lst false []])) = .ok (TI (tabI d.length (firstI d))) s := by
  have hi : evIt (evE cf gl 61) (.rg1 (.var 2)) [some A, some (TI d), some (.int d.length), some (.int k), some (.ref s.length), none] (s ++ [.lst false []]) = .ok (none, (List.range d.length).map fun i => D.int ((i : Nat) : Int)) (s ++ [.lst false []]) := rg1_ok (by simp only [w_bind, w_bindx, w_to, w_tox, w_quiet, w_sq, w_sqr, w_sqx, w_lp, w_lpr, w_vw, w_bw, w_fin, w_finx, k_b, k_c2, k_q2, w_or, k_c, k_ht, k_hf, k_h2, k_h, k_at, k_af, k_a, k_ot, k_of, k_o, k_n, k_T2, k_T, k_it, k_if, k_g, k_s, k_x, k_l3, k_l2, k_l, k_e2, k_e, k_as, k_u3, k_u2, k_u, k_set2, k_set, k_ret, k_ift, k_iff, k_wt, k_wf, e_cst, e_var, e_bin, e_neg, e_cmp, e_chain, e_and, e_or, e_not, e_ife, e_call, e_bi, e_isi, e_tup, e_lst, e_ix, e_sl, es_nil, es_cons, e_T, eA_one, eA_cons, eO_one, eO_cons, tr_bl, tr_int, a_nm, a_tup, a_sub, as_nil, as_cons, x_nil, x_cons, x_set, x_ife, x_ret, x_rais, List.getElem?_cons_zero, List.getElem?_cons_succ, List.length_cons, List.length_nil, List.map_cons, List.map_nil, List.cons_append, List.nil_append, Nat.reduceSub, Nat.reduceAdd, List.replicate_succ, List.replicate_zero, List.set_cons_zero, List.set_cons_succ, Nat.zero_add, Nat.sub_self, b_add, b_sub, b_ge, b_gt, b_le, b_lt, b_eq, b_ne, b_mul, b_fdiv, b_mod, u_abs, u_inti, u_intb, u_gcd, Bool.not_true, Bool.not_false, is_iI, is_iB, is_iL, is_iT, is_iLT, is_iBS, is_bI, is_bB, is_bLT, is_bBS, is_tL, is_tT, is_tLT, is_lL, is_lT, is_lLT, n_i, n_b, b_eqb, b_neb, i_sq, j_tup, j_lst, j_scr, i_zip, j_zip, j_zipT, j_zipL, u_tupleL, u_tupleT, deep_int, deep_bl, List.take_length, u_all2, w_upi, w_upb, w_upt, w_upl, u_len2, u_list2, k_t2, k_t3, m_l1, m_l2, m_l3, m_l4, m_l5, x_tup0, x_tup1, okMul_1, b_eqt, decide_true, decide_false, Bool.true_and, Bool.false_and]) (by omega)
  obtain ⟨k', e5', q⟩ := loopB (gl := gl) (e0 := some A) (e2 := some (.int d.length)) (S := s) ((List.range d.length).map fun i : Nat => D.int ((i : Nat) : Int)).length W hl hc d.length 0 [] k none 0 h1 h2 (by simpa using hl)
  rw [← List.range_eq_range', List.nil_append] at q
  have ev : ((List.range d.length).map fun i : Nat => D.int (firstI d (i : Int))) = (tabI d.length (firstI d)).map D.int := by
    unfold tabI
    rw [List.map_map]
    rfl
  rw [ev] at q
  have hx : exS (evE cf gl 61) 100000 61 (.for_ (.nm 5) (.rg1 (.var 2)) (bodyB kl)) [some A, some (TI d), some (.int d.length), some (.int k), some (.ref s.length), none] (s ++ [.lst false []]) = .ok .next [some A, some (TI d), some (.int d.length), some (.int k'), some (.ref s.length), e5'] (s ++ [.lst false ((tabI d.length (firstI d)).map D.int)]) := by
    rw [x_for, hi, w_to]
    exact q
  have ut : biD .tuple [.ref s.length] (s ++ [SO.lst false ((tabI d.length (firstI d)).map D.int)]) = .ok (TI (tabI d.length (firstI d))) (s ++ [SO.lst false ((tabI d.length (firstI d)).map D.int)]) := u_tupR (lk := false) (by simp)
  have hr : exs (exS (evE cf gl 61) 100000 61) [(.ret (.bi .tuple [(.var 4)]))] [some A, some (TI d), some (.int d.length), some (.int k'), some (.ref s.length), e5'] (s ++ [.lst false ((tabI d.length (firstI d)).map D.int)]) = .ok (.ret (TI (tabI d.length (firstI d)))) [some A, some (TI d), some (.int d.length), some (.int k'), some (.ref s.length), e5'] (s ++ [.lst false ((tabI d.length (firstI d)).map D.int)]) := by
    simp only [w_bind, w_bindx, w_to, w_tox, w_quiet, w_sq, w_sqr, w_sqx, w_lp, w_lpr, w_vw, w_bw, w_fin, w_finx, k_b, k_c2, k_q2, w_or, k_c, k_ht, k_hf, k_h2, k_h, k_at, k_af, k_a, k_ot, k_of, k_o, k_n, k_T2, k_T, k_it, k_if, k_g, k_s, k_x, k_l3, k_l2, k_l, k_e2, k_e, k_as, k_u3, k_u2, k_u, k_set2, k_set, k_ret, k_ift, k_iff, k_wt, k_wf, e_cst, e_var, e_bin, e_neg, e_cmp, e_chain, e_and, e_or, e_not, e_ife, e_call, e_bi, e_isi, e_tup, e_lst, e_ix, e_sl, es_nil, es_cons, e_T, eA_one, eA_cons, eO_one, eO_cons, tr_bl, tr_int, a_nm, a_tup, a_sub, as_nil, as_cons, x_nil, x_cons, x_set, x_ife, x_ret, x_rais, List.getElem?_cons_zero, List.getElem?_cons_succ, List.length_cons, List.length_nil, List.map_cons, List.map_nil, List.cons_append, List.nil_append, Nat.reduceSub, Nat.reduceAdd, List.replicate_succ, List.replicate_zero, List.set_cons_zero, List.set_cons_succ, Nat.zero_add, Nat.sub_self, b_add, b_sub, b_ge, b_gt, b_le, b_lt, b_eq, b_ne, b_mul, b_fdiv, b_mod, u_abs, u_inti, u_intb, u_gcd, Bool.not_true, Bool.not_false, is_iI, is_iB, is_iL, is_iT, is_iLT, is_iBS, is_bI, is_bB, is_bLT, is_bBS, is_tL, is_tT, is_tLT, is_lL, is_lT, is_lLT, n_i, n_b, b_eqb, b_neb, i_sq, j_tup, j_lst, j_scr, i_zip, j_zip, j_zipT, j_zipL, u_tupleL, u_tupleT, deep_int, deep_bl, List.take_length, u_all2, w_upi, w_upb, w_upt, w_upl, u_len2, u_list2, k_t2, k_t3, m_l1, m_l2, m_l3, m_l4, m_l5, x_tup0, x_tup1, okMul_1, b_eqt, decide_true, decide_false, Bool.true_and, Bool.false_and, ut]
  rw [x_cons, hx, w_sq, hr]
  exact back_app _ _ _
theorem firstback_ok {A : D} (h : P[k]? = some (fFirstBack ks kl)) (W : Wh d) (hl : d.length ≤ 1000) (hs : callF gl P n ks [A] s = .ok (TI d) s) (hc : ∀ z S, callF gl P n kl [TI d, .int z] S = .ok (.int (ledI d z)) S) : callF gl P (n + 1) k [A] s = .ok (TI (tabI d.length (firstI d))) s := by
  have hp := W.pos
  have a := at0 W
  have q : fin s.length (exs (exS (evE (callF gl P n) gl 61) 100000 61) (preB ks ++ [(.for_ (.nm 5) (.rg1 (.var 2)) (bodyB kl)), (.ret (.bi .tuple [(.var 4)]))]) [some A, none, none, none, none, none] s) = .ok (TI (tabI d.length (firstI d))) s := by
    rw [exs_app, preB_ok hp hl hs, w_sq]
    exact postB_ok W hl hc a.1 (by omega)
  exact (callF_at h rfl).trans q
end
end Bw

set_option linter.all false
set_option maxRecDepth 100000
set_option maxHeartbeats 1000000
/-! Bw: the program's backs and the law's are alike -/
namespace Bw
open PySem
theorem firstI_add {d : List Int} (W : Wh d) (g k : Int) : firstI d (g + k * d.length) = firstI d g + k * d.length := isF_one W (firstI_ok W _) (isF_add W.pos (firstI_ok W g) k)
theorem led_tab {N : Nat} (hN : 0 < N) {h : Int → Int} (hh : ∀ g k : Int, h (g + k * N) = h g + k * N) (z : Int) : ledI (tabI N h) z = h z := by
  have h1 := Int.emod_nonneg z (b := (N : Int)) (by omega)
  have h2 := Int.emod_lt_of_pos z (b := (N : Int)) (by omega)
  have h3 := Int.mul_ediv_add_emod z N
  unfold ledI
  rw [tabI_len, tabI_at (by omega), show (((z % (N : Int)).toNat : Nat) : Int) = z % N by omega, ← hh, show z % (N : Int) + z / N * N = z by rw [Int.mul_comm]; omega]
theorem fs_led {d : List Int} (W : Wh d) (z : Int) : ledI (tabI d.length (firstI d)) z = firstI d z := led_tab W.pos (firstI_add W) z
/-- the last place led at most so far -/
noncomputable def lastI (d : List Int) (g : Int) : Int := firstI d (g + 1) - 1
theorem lastI_add {d : List Int} (W : Wh d) (g k : Int) : lastI d (g + k * d.length) = lastI d g + k * d.length := by
  unfold lastI
  rw [show g + k * (d.length : Int) + 1 = (g + 1) + k * d.length by omega, firstI_add W]
  omega
theorem ls_led {d : List Int} (W : Wh d) (z : Int) : ledI (tabI d.length (lastI d)) z = lastI d z := led_tab W.pos (lastI_add W) z
theorem first_iff {d : List Int} (W : Wh d) (x z : Int) : decide (z ≤ ledI d x) = decide (firstI d z ≤ x) := decide_eq_decide.mpr (isF_iff W (firstI_ok W z) x)
theorem last_iff {d : List Int} (W : Wh d) (x z : Int) : decide (ledI d x ≤ z) = decide (x ≤ lastI d z) := by
  have := isF_iff W (firstI_ok W (z + 1)) x
  apply decide_eq_decide.mpr
  unfold lastI
  omega
section
variable {gl : PySem.Str → Option D} {P : List F} {k kl kn ka kw ki ks kf kq n : Nat} {s : Sto} {d : List Int} {x : D} {nm : String}
theorem first_back_ok (H : HasW P kn ka kw ki ks kl) (hf : P[kf]? = some (fFirstBack ks kl)) (W : Wh d) (hl : d.length ≤ 1000) (hx : TL x d) : callF gl P (n + 5) kf [x] s = .ok (TI (tabI d.length (firstI d))) s :=
  firstback_ok hf W hl (asw_ok H W hx hl) (fun z S => led_ok (n := n + 3) H.hl W.pos hl)
theorem last_back_ok (H : HasW P kn ka kw ki ks kl) (hf : P[kf]? = some (fFirstBack ks kl)) (hk : P[k]? = some (fLastBack kf kl)) (W : Wh d) (hl : d.length ≤ 1000) (hx : TL x d) : callF gl P (n + 6) k [x] s = .ok (TI (tabI d.length (lastI d))) s := by
  have q := lastback_ok (gl := gl) (n := n + 5) (s := s) (a := x) (fs := tabI d.length (firstI d)) hk (by rw [tabI_len]; exact hl) (first_back_ok H hf W hl hx) (fun z S => led_ok (n := n + 4) H.hl (by rw [tabI_len]; exact W.pos) (by rw [tabI_len]; exact hl))
  rw [tabI_len, tabI_congr (k := lastI d) (fun i _ => by rw [fs_led W]; rfl)] at q
  exact q
theorem mirrored_ok (H : HasW P kn ka kw ki ks kl) (hk : P[k]? = some (fMirr ks kl)) (W : Wh d) (hl : d.length ≤ 1000) (hx : TL x d) : callF gl P (n + 5) k [x] s = .ok (TI (tabI d.length fun i => -ledI d (-i))) s :=
  mirr_ok hk hl (asw_ok H W hx hl) (fun z S => led_ok (n := n + 3) H.hl W.pos hl)
/-- the law's -/
theorem law_first_ok (hq : P[kq]? = some fLawLed) (h1 : P[kl]? = some (fFirstLed kq)) (hk : P[k]? = some (fLawBack nm kl)) (W : Wh d) (hl : d.length ≤ 1000) : callF gl P (n + 3) k [TI d] s = .ok (TI (tabI d.length (firstI d))) s :=
  lawback_ok hk hl (fun i S => first_ok hq h1 W hl (firstI_ok W i))
theorem law_last_ok (hq : P[kq]? = some fLawLed) (h1 : P[kl]? = some (fLastLed kq)) (hk : P[k]? = some (fLawBack nm kl)) (W : Wh d) (hl : d.length ≤ 1000) : callF gl P (n + 3) k [TI d] s = .ok (TI (tabI d.length (lastI d))) s :=
  lawback_ok hk hl (fun i S => last_ok hq h1 W hl (by unfold lastI; rw [Int.sub_add_cancel]; exact firstI_ok W _))
theorem law_glass_ok (hq : P[kq]? = some fLawLed) (hk : P[k]? = some (fGlass kq)) (W : Wh d) (hl : d.length ≤ 1000) : callF gl P (n + 2) k [TI d] s = .ok (TI (tabI d.length fun i => -ledI d (-i))) s :=
  glass_ok hk hl (fun z S => lawled_ok hq W.pos hl)
end
end Bw

set_option linter.all false
set_option maxRecDepth 100000
set_option maxHeartbeats 1000000
/-! Bw: sorted numbers, and the wheel they are -/
namespace Bw
open PySem
theorem wI_len (x : Int) : ∀ l, (insI x l).length = l.length + 1
  | [] => rfl
  | y :: ys => by
    unfold insI
    split
    · rfl
    · rw [List.length_cons, wI_len x ys, List.length_cons]
theorem wI_mem {x z : Int} : ∀ {l}, z ∈ insI x l → z = x ∨ z ∈ l
  | [], h => by
    have : z ∈ [x] := h
    exact .inl (List.mem_singleton.mp this)
  | y :: ys, h => by
    unfold insI at h
    split at h
    · rcases List.mem_cons.mp h with h | h
      · exact .inl h
      · exact .inr h
    · rcases List.mem_cons.mp h with h | h
      · exact .inr (h ▸ List.mem_cons_self ..)
      · rcases wI_mem h with h | h
        · exact .inl h
        · exact .inr (List.mem_cons_of_mem _ h)
theorem wI_asc (x : Int) : ∀ {l : List Int}, l.Pairwise (· ≤ ·) → (insI x l).Pairwise (· ≤ ·)
  | [], _ => List.pairwise_singleton ..
  | y :: ys, h => by
    have h2 := List.pairwise_cons.mp h
    unfold insI
    split
    · rename_i c
      refine List.pairwise_cons.mpr ⟨fun z hz => ?_, h⟩
      rcases List.mem_cons.mp hz with e | hz
      · omega
      · exact Int.le_trans c (h2.1 z hz)
    · rename_i c
      refine List.pairwise_cons.mpr ⟨fun z hz => ?_, wI_asc x h2.2⟩
      rcases wI_mem hz with e | hz
      · omega
      · exact h2.1 z hz
theorem wS_len : ∀ l : List Int, (srtI l).length = l.length
  | [] => rfl
  | x :: xs => by
    show (insI x (srtI xs)).length = _
    rw [wI_len, wS_len xs, List.length_cons]
theorem wS_mem {z : Int} : ∀ {l : List Int}, z ∈ srtI l → z ∈ l
  | [], h => h
  | x :: xs, h => by
    rcases wI_mem (show z ∈ insI x (srtI xs) from h) with h | h
    · exact h ▸ List.mem_cons_self ..
    · exact List.mem_cons_of_mem _ (wS_mem h)
theorem wS_asc : ∀ l : List Int, (srtI l).Pairwise (· ≤ ·)
  | [] => List.Pairwise.nil
  | x :: xs => wI_asc x (wS_asc xs)
theorem getD_get {l : List Int} {i : Nat} (h : i < l.length) : l.getD i 0 = l[i] := by
  rw [List.getD_eq_getElem?_getD, List.getElem?_eq_getElem h]
  rfl
/-- sorted numbers within a ring of their least are a wheel -/
theorem srt_wh {l : List Int} {st w : Int} (hp : 0 < l.length) (hb : ∀ x ∈ l, st ≤ x ∧ x < st + w) (hw : w ≤ l.length + 1) : Wh (srtI l) where
  pos := by rw [wS_len]; exact hp
  asc := fun i j hij hj => by
    rw [getD_get hj, getD_get (by omega)]
    rcases Nat.lt_or_eq_of_le hij with h | h
    · exact List.pairwise_iff_getElem.mp (wS_asc l) i j (by omega) hj h
    · subst h
      exact Int.le_refl _
  top := by
    have hl := wS_len l
    rw [getD_get (by omega), getD_get (by omega)]
    have a := hb _ (wS_mem (List.getElem_mem (l := srtI l) (n := (srtI l).length - 1) (by omega)))
    have b := hb _ (wS_mem (List.getElem_mem (l := srtI l) (n := 0) (by omega)))
    omega
theorem u_srt (l : List Int) (hl : l.length ≤ lim) (s : Sto) : biD .sorted [.lst (l.map D.int)] s = .ok (.lst ((srtI l).map D.int)) s := by
  show (match items s (.lst (l.map D.int)) with
    | some xs => (match srtD xs with
      | some es => mkL false es s
      | none => R.fail)
    | none => .fail) = _
  have e : srtD (l.map D.int) = some ((srtI l).map D.int) := by
    unfold srtD
    rw [getI_map]
  have i : items s (.lst (l.map D.int)) = some (l.map D.int) := rfl
  simp only [i, e]
  exact if_pos (by rw [List.length_map, wS_len]; exact hl)
end Bw

set_option linter.all false
set_option maxRecDepth 100000
set_option maxHeartbeats 1000000
/-! Bw: a drawn disk -/
namespace Bw
open PySem
abbrev E10 (r : Nat) (N : Nat) (x2 x3 x4 x5 x6 x7 x8 x9 : Option D) : En := [some (.ref r), some (.int (N : Nat)), x2, x3, x4, x5, x6, x7, x8, x9]
def dS1 (kt : Nat) : S := (.set (.tup [(.nm 3), (.nm 4)]) (.tup [(.bin .sub (.call kt [(.var 0), (.bin .mul (.cst (D.int (3))) (.var 1))]) (.var 1)), (.call kt [(.var 0), (.cst (D.int (5)))])]))
def dS2 (kh : Nat) : S := (.ife (.cmp .eq (.var 4) (.cst (D.int (0)))) [(.ret (.call kh [(.var 1), (.var 3)]))] [])
def dB3 (kt kh : Nat) : List S := [(.set (.nm 5) (.bi .listR [(.call kh [(.var 1), (.var 3)])])), (.set (.nm 6) (.call kt [(.var 0), (.var 1)])), (.set (.sub (.var 5) (.var 6)) (.bin .add (.ix (.var 5) (.var 6)) (.cst (D.int (1))))), (.for_ (.nm 7) (.rg2 (.bin .add (.var 6) (.cst (D.int (1)))) (.var 1)) [(.set (.sub (.var 5) (.var 7)) (.bi .max [(.ix (.var 5) (.var 7)), (.ix (.var 5) (.bin .sub (.var 7) (.cst (D.int (1)))))]))]), (.ret (.bi .tuple [(.comp false (.bi .min [(.var 8), (.bin .add (.ix (.var 5) (.cst (D.int (0)))) (.var 1))]) [8] (.nm 8) (.sq (.var 5)) none)]))]
def dS3 (kt kh : Nat) : S := (.ife (.cmp .eq (.var 4) (.cst (D.int (1)))) (dB3 kt kh) [])
def dS4 (kt : Nat) : S := (.set (.nm 2) (.ife (.cmp .gt (.var 4) (.cst (D.int (2)))) (.bin .add (.var 1) (.cst (D.int (1)))) (.bin .add (.cst (D.int (1))) (.call kt [(.var 0), (.var 1)]))))
def dC5 (kt : Nat) : C := .comp false (.bin .add (.var 3) (.call kt [(.var 0), (.var 2)])) [9] (.nm 9) (.rg1 (.var 1)) none
def dS5 (kt : Nat) : S := (.ret (.bi .tuple [(.bi .sorted [(dC5 kt)])]))
def fDisk (kt kh : Nat) : F := ⟨"_law_disk", ["tin", "ring_so"], ["tin", "ring_so", "wide_so", "start_so", "kind_so", "disk", "k", "j", "own", "lap"], [dS1 kt, dS2 kh, dS3 kt kh, dS4 kt, dS5 kt], 61, 100000⟩
section
variable {gl : PySem.Str → Option D} {P : List F} {k kt kh n N r M : Nat} {s s1 s2 : Sto} {cf : CF} {a b w st : Int} {x2 x3 x4 x5 x6 x7 x8 x9 : Option D}
theorem dS1_ok (h1 : cf kt [.ref r, .int (3 * (N : Int))] s = .ok (.int a) s1) (h2 : cf kt [.ref r, .int 5] s1 = .ok (.int b) s2) (o : okMul 3 (N : Int) = true) :
    exS (evE cf gl 61) 100000 61 (dS1 kt) (E10 r N none none none none none none none none) s = .ok .next (E10 r N none (some (.int (a - N))) (some (.int b)) none none none none none) s2 := by
  simp only [dS1, E10, w_bind, w_bindx, w_to, w_tox, w_quiet, w_sq, w_sqr, w_sqx, w_lp, w_lpr, w_vw, w_bw, w_fin, w_finx, k_b, k_c2, k_q2, w_or, k_c, k_ht, k_hf, k_h2, k_h, k_at, k_af, k_a, k_ot, k_of, k_o, k_n, k_T2, k_T, k_it, k_if, k_g, k_s, k_x, k_l3, k_l2, k_l, k_e2, k_e, k_as, k_u3, k_u2, k_u, k_set2, k_set, k_ret, k_ift, k_iff, k_wt, k_wf, e_cst, e_var, e_bin, e_neg, e_cmp, e_chain, e_and, e_or, e_not, e_ife, e_call, e_bi, e_isi, e_tup, e_lst, e_ix, e_sl, es_nil, es_cons, e_T, eA_one, eA_cons, eO_one, eO_cons, tr_bl, tr_int, a_nm, a_tup, a_sub, as_nil, as_cons, x_nil, x_cons, x_set, x_ife, x_ret, x_rais, List.getElem?_cons_zero, List.getElem?_cons_succ, List.length_cons, List.length_nil, List.map_cons, List.map_nil, List.cons_append, List.nil_append, Nat.reduceSub, Nat.reduceAdd, List.replicate_succ, List.replicate_zero, List.set_cons_zero, List.set_cons_succ, Nat.zero_add, Nat.sub_self, b_add, b_sub, b_ge, b_gt, b_le, b_lt, b_eq, b_ne, b_mul, b_fdiv, b_mod, u_abs, u_inti, u_intb, u_gcd, Bool.not_true, Bool.not_false, is_iI, is_iB, is_iL, is_iT, is_iLT, is_iBS, is_bI, is_bB, is_bLT, is_bBS, is_tL, is_tT, is_tLT, is_lL, is_lT, is_lLT, n_i, n_b, b_eqb, b_neb, i_sq, j_tup, j_lst, j_scr, i_zip, j_zip, j_zipT, j_zipL, u_tupleL, u_tupleT, deep_int, deep_bl, List.take_length, u_all2, w_upi, w_upb, w_upt, w_upl, u_len2, u_list2, k_t2, k_t3, m_l1, m_l2, m_l3, m_l4, m_l5, x_tup0, x_tup1, okMul_1, b_eqt, decide_true, decide_false, Bool.true_and, Bool.false_and, h1, h2, o]
theorem dS2_no (h : decide (b = 0) = false) : exS (evE cf gl 61) 100000 61 (dS2 kh) (E10 r N x2 x3 (some (.int b)) x5 x6 x7 x8 x9) s = .ok .next (E10 r N x2 x3 (some (.int b)) x5 x6 x7 x8 x9) s := by
  simp only [dS2, E10, w_bind, w_bindx, w_to, w_tox, w_quiet, w_sq, w_sqr, w_sqx, w_lp, w_lpr, w_vw, w_bw, w_fin, w_finx, k_b, k_c2, k_q2, w_or, k_c, k_ht, k_hf, k_h2, k_h, k_at, k_af, k_a, k_ot, k_of, k_o, k_n, k_T2, k_T, k_it, k_if, k_g, k_s, k_x, k_l3, k_l2, k_l, k_e2, k_e, k_as, k_u3, k_u2, k_u, k_set2, k_set, k_ret, k_ift, k_iff, k_wt, k_wf, e_cst, e_var, e_bin, e_neg, e_cmp, e_chain, e_and, e_or, e_not, e_ife, e_call, e_bi, e_isi, e_tup, e_lst, e_ix, e_sl, es_nil, es_cons, e_T, eA_one, eA_cons, eO_one, eO_cons, tr_bl, tr_int, a_nm, a_tup, a_sub, as_nil, as_cons, x_nil, x_cons, x_set, x_ife, x_ret, x_rais, List.getElem?_cons_zero, List.getElem?_cons_succ, List.length_cons, List.length_nil, List.map_cons, List.map_nil, List.cons_append, List.nil_append, Nat.reduceSub, Nat.reduceAdd, List.replicate_succ, List.replicate_zero, List.set_cons_zero, List.set_cons_succ, Nat.zero_add, Nat.sub_self, b_add, b_sub, b_ge, b_gt, b_le, b_lt, b_eq, b_ne, b_mul, b_fdiv, b_mod, u_abs, u_inti, u_intb, u_gcd, Bool.not_true, Bool.not_false, is_iI, is_iB, is_iL, is_iT, is_iLT, is_iBS, is_bI, is_bB, is_bLT, is_bBS, is_tL, is_tT, is_tLT, is_lL, is_lT, is_lLT, n_i, n_b, b_eqb, b_neb, i_sq, j_tup, j_lst, j_scr, i_zip, j_zip, j_zipT, j_zipL, u_tupleL, u_tupleT, deep_int, deep_bl, List.take_length, u_all2, w_upi, w_upb, w_upt, w_upl, u_len2, u_list2, k_t2, k_t3, m_l1, m_l2, m_l3, m_l4, m_l5, x_tup0, x_tup1, okMul_1, b_eqt, decide_true, decide_false, Bool.true_and, Bool.false_and, h]
theorem dS2_yes {v : D} (h : cf kh [.int (N : Int), .int st] s = .ok v s) : exS (evE cf gl 61) 100000 61 (dS2 kh) (E10 r N x2 (some (.int st)) (some (.int 0)) x5 x6 x7 x8 x9) s = .ok (.ret v) (E10 r N x2 (some (.int st)) (some (.int 0)) x5 x6 x7 x8 x9) s := by
  simp only [dS2, E10, w_bind, w_bindx, w_to, w_tox, w_quiet, w_sq, w_sqr, w_sqx, w_lp, w_lpr, w_vw, w_bw, w_fin, w_finx, k_b, k_c2, k_q2, w_or, k_c, k_ht, k_hf, k_h2, k_h, k_at, k_af, k_a, k_ot, k_of, k_o, k_n, k_T2, k_T, k_it, k_if, k_g, k_s, k_x, k_l3, k_l2, k_l, k_e2, k_e, k_as, k_u3, k_u2, k_u, k_set2, k_set, k_ret, k_ift, k_iff, k_wt, k_wf, e_cst, e_var, e_bin, e_neg, e_cmp, e_chain, e_and, e_or, e_not, e_ife, e_call, e_bi, e_isi, e_tup, e_lst, e_ix, e_sl, es_nil, es_cons, e_T, eA_one, eA_cons, eO_one, eO_cons, tr_bl, tr_int, a_nm, a_tup, a_sub, as_nil, as_cons, x_nil, x_cons, x_set, x_ife, x_ret, x_rais, List.getElem?_cons_zero, List.getElem?_cons_succ, List.length_cons, List.length_nil, List.map_cons, List.map_nil, List.cons_append, List.nil_append, Nat.reduceSub, Nat.reduceAdd, List.replicate_succ, List.replicate_zero, List.set_cons_zero, List.set_cons_succ, Nat.zero_add, Nat.sub_self, b_add, b_sub, b_ge, b_gt, b_le, b_lt, b_eq, b_ne, b_mul, b_fdiv, b_mod, u_abs, u_inti, u_intb, u_gcd, Bool.not_true, Bool.not_false, is_iI, is_iB, is_iL, is_iT, is_iLT, is_iBS, is_bI, is_bB, is_bLT, is_bBS, is_tL, is_tT, is_tLT, is_lL, is_lT, is_lLT, n_i, n_b, b_eqb, b_neb, i_sq, j_tup, j_lst, j_scr, i_zip, j_zip, j_zipT, j_zipL, u_tupleL, u_tupleT, deep_int, deep_bl, List.take_length, u_all2, w_upi, w_upb, w_upt, w_upl, u_len2, u_list2, k_t2, k_t3, m_l1, m_l2, m_l3, m_l4, m_l5, x_tup0, x_tup1, okMul_1, b_eqt, decide_true, decide_false, Bool.true_and, Bool.false_and, h]
theorem dS3_no (h : decide (b = 1) = false) : exS (evE cf gl 61) 100000 61 (dS3 kt kh) (E10 r N x2 x3 (some (.int b)) x5 x6 x7 x8 x9) s = .ok .next (E10 r N x2 x3 (some (.int b)) x5 x6 x7 x8 x9) s := by
  simp only [dS3, E10, w_bind, w_bindx, w_to, w_tox, w_quiet, w_sq, w_sqr, w_sqx, w_lp, w_lpr, w_vw, w_bw, w_fin, w_finx, k_b, k_c2, k_q2, w_or, k_c, k_ht, k_hf, k_h2, k_h, k_at, k_af, k_a, k_ot, k_of, k_o, k_n, k_T2, k_T, k_it, k_if, k_g, k_s, k_x, k_l3, k_l2, k_l, k_e2, k_e, k_as, k_u3, k_u2, k_u, k_set2, k_set, k_ret, k_ift, k_iff, k_wt, k_wf, e_cst, e_var, e_bin, e_neg, e_cmp, e_chain, e_and, e_or, e_not, e_ife, e_call, e_bi, e_isi, e_tup, e_lst, e_ix, e_sl, es_nil, es_cons, e_T, eA_one, eA_cons, eO_one, eO_cons, tr_bl, tr_int, a_nm, a_tup, a_sub, as_nil, as_cons, x_nil, x_cons, x_set, x_ife, x_ret, x_rais, List.getElem?_cons_zero, List.getElem?_cons_succ, List.length_cons, List.length_nil, List.map_cons, List.map_nil, List.cons_append, List.nil_append, Nat.reduceSub, Nat.reduceAdd, List.replicate_succ, List.replicate_zero, List.set_cons_zero, List.set_cons_succ, Nat.zero_add, Nat.sub_self, b_add, b_sub, b_ge, b_gt, b_le, b_lt, b_eq, b_ne, b_mul, b_fdiv, b_mod, u_abs, u_inti, u_intb, u_gcd, Bool.not_true, Bool.not_false, is_iI, is_iB, is_iL, is_iT, is_iLT, is_iBS, is_bI, is_bB, is_bLT, is_bBS, is_tL, is_tT, is_tLT, is_lL, is_lT, is_lLT, n_i, n_b, b_eqb, b_neb, i_sq, j_tup, j_lst, j_scr, i_zip, j_zip, j_zipT, j_zipL, u_tupleL, u_tupleT, deep_int, deep_bl, List.take_length, u_all2, w_upi, w_upb, w_upt, w_upl, u_len2, u_list2, k_t2, k_t3, m_l1, m_l2, m_l3, m_l4, m_l5, x_tup0, x_tup1, okMul_1, b_eqt, decide_true, decide_false, Bool.true_and, Bool.false_and, h]
theorem dS4_gt (h : decide (2 < b) = true) : exS (evE cf gl 61) 100000 61 (dS4 kt) (E10 r N x2 x3 (some (.int b)) x5 x6 x7 x8 x9) s = .ok .next (E10 r N (some (.int ((N : Int) + 1))) x3 (some (.int b)) x5 x6 x7 x8 x9) s := by
  simp only [dS4, E10, w_bind, w_bindx, w_to, w_tox, w_quiet, w_sq, w_sqr, w_sqx, w_lp, w_lpr, w_vw, w_bw, w_fin, w_finx, k_b, k_c2, k_q2, w_or, k_c, k_ht, k_hf, k_h2, k_h, k_at, k_af, k_a, k_ot, k_of, k_o, k_n, k_T2, k_T, k_it, k_if, k_g, k_s, k_x, k_l3, k_l2, k_l, k_e2, k_e, k_as, k_u3, k_u2, k_u, k_set2, k_set, k_ret, k_ift, k_iff, k_wt, k_wf, e_cst, e_var, e_bin, e_neg, e_cmp, e_chain, e_and, e_or, e_not, e_ife, e_call, e_bi, e_isi, e_tup, e_lst, e_ix, e_sl, es_nil, es_cons, e_T, eA_one, eA_cons, eO_one, eO_cons, tr_bl, tr_int, a_nm, a_tup, a_sub, as_nil, as_cons, x_nil, x_cons, x_set, x_ife, x_ret, x_rais, List.getElem?_cons_zero, List.getElem?_cons_succ, List.length_cons, List.length_nil, List.map_cons, List.map_nil, List.cons_append, List.nil_append, Nat.reduceSub, Nat.reduceAdd, List.replicate_succ, List.replicate_zero, List.set_cons_zero, List.set_cons_succ, Nat.zero_add, Nat.sub_self, b_add, b_sub, b_ge, b_gt, b_le, b_lt, b_eq, b_ne, b_mul, b_fdiv, b_mod, u_abs, u_inti, u_intb, u_gcd, Bool.not_true, Bool.not_false, is_iI, is_iB, is_iL, is_iT, is_iLT, is_iBS, is_bI, is_bB, is_bLT, is_bBS, is_tL, is_tT, is_tLT, is_lL, is_lT, is_lLT, n_i, n_b, b_eqb, b_neb, i_sq, j_tup, j_lst, j_scr, i_zip, j_zip, j_zipT, j_zipL, u_tupleL, u_tupleT, deep_int, deep_bl, List.take_length, u_all2, w_upi, w_upb, w_upt, w_upl, u_len2, u_list2, k_t2, k_t3, m_l1, m_l2, m_l3, m_l4, m_l5, x_tup0, x_tup1, okMul_1, b_eqt, decide_true, decide_false, Bool.true_and, Bool.false_and, h]
theorem dS4_le (h : decide (2 < b) = false) (h2 : cf kt [.ref r, .int (N : Int)] s = .ok (.int a) s1) : exS (evE cf gl 61) 100000 61 (dS4 kt) (E10 r N x2 x3 (some (.int b)) x5 x6 x7 x8 x9) s = .ok .next (E10 r N (some (.int (1 + a))) x3 (some (.int b)) x5 x6 x7 x8 x9) s1 := by
  simp only [dS4, E10, w_bind, w_bindx, w_to, w_tox, w_quiet, w_sq, w_sqr, w_sqx, w_lp, w_lpr, w_vw, w_bw, w_fin, w_finx, k_b, k_c2, k_q2, w_or, k_c, k_ht, k_hf, k_h2, k_h, k_at, k_af, k_a, k_ot, k_of, k_o, k_n, k_T2, k_T, k_it, k_if, k_g, k_s, k_x, k_l3, k_l2, k_l, k_e2, k_e, k_as, k_u3, k_u2, k_u, k_set2, k_set, k_ret, k_ift, k_iff, k_wt, k_wf, e_cst, e_var, e_bin, e_neg, e_cmp, e_chain, e_and, e_or, e_not, e_ife, e_call, e_bi, e_isi, e_tup, e_lst, e_ix, e_sl, es_nil, es_cons, e_T, eA_one, eA_cons, eO_one, eO_cons, tr_bl, tr_int, a_nm, a_tup, a_sub, as_nil, as_cons, x_nil, x_cons, x_set, x_ife, x_ret, x_rais, List.getElem?_cons_zero, List.getElem?_cons_succ, List.length_cons, List.length_nil, List.map_cons, List.map_nil, List.cons_append, List.nil_append, Nat.reduceSub, Nat.reduceAdd, List.replicate_succ, List.replicate_zero, List.set_cons_zero, List.set_cons_succ, Nat.zero_add, Nat.sub_self, b_add, b_sub, b_ge, b_gt, b_le, b_lt, b_eq, b_ne, b_mul, b_fdiv, b_mod, u_abs, u_inti, u_intb, u_gcd, Bool.not_true, Bool.not_false, is_iI, is_iB, is_iL, is_iT, is_iLT, is_iBS, is_bI, is_bB, is_bLT, is_bBS, is_tL, is_tT, is_tLT, is_lL, is_lT, is_lLT, n_i, n_b, b_eqb, b_neb, i_sq, j_tup, j_lst, j_scr, i_zip, j_zip, j_zipT, j_zipL, u_tupleL, u_tupleT, deep_int, deep_bl, List.take_length, u_all2, w_upi, w_upb, w_upt, w_upl, u_len2, u_list2, k_t2, k_t3, m_l1, m_l2, m_l3, m_l4, m_l5, x_tup0, x_tup1, okMul_1, b_eqt, decide_true, decide_false, Bool.true_and, Bool.false_and, h, h2]
theorem dS5_ok {l : List Int} (hl : l.length ≤ lim) (h : evE cf gl 59 (dC5 kt) (E10 r N x2 x3 x4 x5 x6 x7 x8 x9) s = .ok (.lst (l.map D.int)) s1) : exS (evE cf gl 61) 100000 61 (dS5 kt) (E10 r N x2 x3 x4 x5 x6 x7 x8 x9) s = .ok (.ret (TI (srtI l))) (E10 r N x2 x3 x4 x5 x6 x7 x8 x9) s1 := by
  have q := u_srt l hl s1
  simp only [dS5, w_bind, w_bindx, w_to, w_tox, w_quiet, w_sq, w_sqr, w_sqx, w_lp, w_lpr, w_vw, w_bw, w_fin, w_finx, k_b, k_c2, k_q2, w_or, k_c, k_ht, k_hf, k_h2, k_h, k_at, k_af, k_a, k_ot, k_of, k_o, k_n, k_T2, k_T, k_it, k_if, k_g, k_s, k_x, k_l3, k_l2, k_l, k_e2, k_e, k_as, k_u3, k_u2, k_u, k_set2, k_set, k_ret, k_ift, k_iff, k_wt, k_wf, e_cst, e_var, e_bin, e_neg, e_cmp, e_chain, e_and, e_or, e_not, e_ife, e_call, e_bi, e_isi, e_tup, e_lst, e_ix, e_sl, es_nil, es_cons, e_T, eA_one, eA_cons, eO_one, eO_cons, tr_bl, tr_int, a_nm, a_tup, a_sub, as_nil, as_cons, x_nil, x_cons, x_set, x_ife, x_ret, x_rais, List.getElem?_cons_zero, List.getElem?_cons_succ, List.length_cons, List.length_nil, List.map_cons, List.map_nil, List.cons_append, List.nil_append, Nat.reduceSub, Nat.reduceAdd, List.replicate_succ, List.replicate_zero, List.set_cons_zero, List.set_cons_succ, Nat.zero_add, Nat.sub_self, b_add, b_sub, b_ge, b_gt, b_le, b_lt, b_eq, b_ne, b_mul, b_fdiv, b_mod, u_abs, u_inti, u_intb, u_gcd, Bool.not_true, Bool.not_false, is_iI, is_iB, is_iL, is_iT, is_iLT, is_iBS, is_bI, is_bB, is_bLT, is_bBS, is_tL, is_tT, is_tLT, is_lL, is_lT, is_lLT, n_i, n_b, b_eqb, b_neb, i_sq, j_tup, j_lst, j_scr, i_zip, j_zip, j_zipT, j_zipL, u_tupleL, u_tupleT, deep_int, deep_bl, List.take_length, u_all2, w_upi, w_upb, w_upt, w_upl, u_len2, u_list2, k_t2, k_t3, m_l1, m_l2, m_l3, m_l4, m_l5, x_tup0, x_tup1, okMul_1, b_eqt, decide_true, decide_false, Bool.true_and, Bool.false_and, h, q]
/-- what a drawn disk is, and what the box is after it -/
structure DiskAt (N r M : Nat) (s : Sto) (d : List Int) (s2 : Sto) : Prop where
  wh : Wh d
  len : d.length = N
  box : ∃ M', M' ≤ M + N + 3 ∧ Tin r M' s2
  size : s2.length = s.length
  rest : ∀ q, q ≠ r → s2[q]? = s[q]?
theorem sorted_part (hN0 : 0 < N) (hN : N ≤ 1000) (T : Tin r M s) (hM : M + N < 1000000) (hw : 0 < w) (hw2 : w ≤ N + 1)
    (tk : ∀ (S : Sto) (m : Nat), Tin r m S → m < 1000000 → ∃ (k : Int) (S' : Sto), cf kt [.ref r, .int w] S = .ok (.int k) S' ∧ 0 ≤ k ∧ k < w ∧ Tin r (m + 1) S' ∧ S'.length = S.length ∧ ∀ q, q ≠ r → S'[q]? = S[q]?) :
    ∃ (d : List Int) (s2 : Sto), exS (evE cf gl 61) 100000 61 (dS5 kt) (E10 r N (some (.int w)) (some (.int st)) x4 x5 x6 x7 x8 x9) s = .ok (.ret (TI d)) (E10 r N (some (.int w)) (some (.int st)) x4 x5 x6 x7 x8 x9) s2 ∧ Wh d ∧ d.length = N ∧ Tin r (M + N) s2 ∧ s2.length = s.length ∧ ∀ q, q ≠ r → s2[q]? = s[q]? := by
  obtain ⟨l, s2, c1, c2, c3, c4, c5, c6⟩ := comp_draw (gl := gl) (x4 := x4) (x5 := x5) (x6 := x6) (x7 := x7) (x8 := x8) (x9 := x9) (st := st) (N := N) T hM hN tk
  have hl : l.length ≤ lim := by
    rw [c2]
    exact Nat.le_trans hN (by decide)
  exact ⟨srtI l, s2, dS5_ok hl c1, srt_wh (by omega) c3 (by omega), by rw [wS_len, c2], c4, c5, c6⟩
end
end Bw

set_option linter.all false
set_option maxRecDepth 100000
set_option maxHeartbeats 1000000
/-! Bw: a drawn disk that is a shift with one number raised -/
namespace Bw
open PySem
def bumpI (N : Nat) (st k : Int) : List Int := tabI N fun i => if i = k then st + k + 1 else i + st
theorem bump_len (N : Nat) (st k : Int) : (bumpI N st k).length = N := tabI_len _ _
theorem bump_at {N i : Nat} {st k : Int} (h : i < N) : (bumpI N st k).getD i 0 = if (i : Int) = k then st + k + 1 else i + st := tabI_at h
theorem bump_wh {N : Nat} {st k : Int} (h : 0 < N) : Wh (bumpI N st k) where
  pos := by rw [bump_len]; exact h
  asc := fun i j hij hj => by
    rw [bump_len] at hj
    rw [bump_at (by omega), bump_at hj]
    split <;> split <;> omega
  top := by
    rw [bump_len, bump_at (by omega), bump_at h]
    split <;> split <;> omega
theorem tabI_map_at {N i : Nat} {h : Int → Int} (l : i < N) : ((tabI N h).map D.int)[i]? = some (.int (h i)) := by
  unfold tabI
  rw [List.map_map, List.getElem?_map, List.getElem?_range l]
  rfl
theorem bump_set {N p : Nat} {st : Int} (hp : p < N) : ((shI N st).map D.int).set p (.int ((p : Int) + st + 1)) = (bumpI N st p).map D.int := by
  apply List.ext_getElem?
  intro i
  by_cases hi : i < N
  · have e1 : (shI N st) = tabI N fun i => i + st := rfl
    unfold bumpI
    rw [tabI_map_at hi, List.getElem?_set]
    split
    · rename_i e
      subst e
      rw [if_pos (by rw [List.length_map, shI_len]; exact hp), if_pos rfl]
      congr 2
      omega
    · rename_i e
      rw [e1, tabI_map_at hi, if_neg (by omega)]
  · rw [List.getElem?_eq_none (by rw [List.length_set, List.length_map, shI_len]; omega), List.getElem?_eq_none (by rw [List.length_map, bump_len]; omega)]
def dBody : List S := [(.set (.sub (.var 5) (.var 7)) (.bi .max [(.ix (.var 5) (.var 7)), (.ix (.var 5) (.bin .sub (.var 7) (.cst (D.int (1)))))]))]
section
variable {gl : PySem.Str → Option D} {P : List F} {k kt kh n N r M R p : Nat} {s s1 s2 S : Sto} {cf : CF} {a b w st u v : Int} {x2 x3 x4 x5 x6 x7 x8 x9 : Option D} {L : List D}
theorem cleans_ints : ∀ l : List Int, cleans (l.map D.int) = true
  | [] => rfl
  | i :: l => by
    rw [List.map_cons, cleans, cleans_ints l]
    rfl
theorem l_listT (xs : List D) (s : Sto) : biD .listR [.tup xs] s = mkL true xs s := rfl
theorem dA_ok {l : List Int} (h : cf kh [.int (N : Int), .int st] s = .ok (TI l) s) (hl : l.length ≤ lim) : exS (evE cf gl 61) 100000 60 (.set (.nm 5) (.bi .listR [(.call kh [(.var 1), (.var 3)])])) (E10 r N x2 (some (.int st)) x4 x5 x6 x7 x8 x9) s = .ok .next (E10 r N x2 (some (.int st)) x4 (some (.ref s.length)) x6 x7 x8 x9) (s ++ [.lst false (l.map D.int)]) := by
  have mk := m_r (l.map D.int) s (by rw [List.length_map]; exact hl) (cleans_ints l)
  simp only [E10, w_bind, w_bindx, w_to, w_tox, w_quiet, w_sq, w_sqr, w_sqx, w_lp, w_lpr, w_vw, w_bw, w_fin, w_finx, k_b, k_c2, k_q2, w_or, k_c, k_ht, k_hf, k_h2, k_h, k_at, k_af, k_a, k_ot, k_of, k_o, k_n, k_T2, k_T, k_it, k_if, k_g, k_s, k_x, k_l3, k_l2, k_l, k_e2, k_e, k_as, k_u3, k_u2, k_u, k_set2, k_set, k_ret, k_ift, k_iff, k_wt, k_wf, e_cst, e_var, e_bin, e_neg, e_cmp, e_chain, e_and, e_or, e_not, e_ife, e_call, e_bi, e_isi, e_tup, e_lst, e_ix, e_sl, es_nil, es_cons, e_T, eA_one, eA_cons, eO_one, eO_cons, tr_bl, tr_int, a_nm, a_tup, a_sub, as_nil, as_cons, x_nil, x_cons, x_set, x_ife, x_ret, x_rais, List.getElem?_cons_zero, List.getElem?_cons_succ, List.length_cons, List.length_nil, List.map_cons, List.map_nil, List.cons_append, List.nil_append, Nat.reduceSub, Nat.reduceAdd, List.replicate_succ, List.replicate_zero, List.set_cons_zero, List.set_cons_succ, Nat.zero_add, Nat.sub_self, b_add, b_sub, b_ge, b_gt, b_le, b_lt, b_eq, b_ne, b_mul, b_fdiv, b_mod, u_abs, u_inti, u_intb, u_gcd, Bool.not_true, Bool.not_false, is_iI, is_iB, is_iL, is_iT, is_iLT, is_iBS, is_bI, is_bB, is_bLT, is_bBS, is_tL, is_tT, is_tLT, is_lL, is_lT, is_lLT, n_i, n_b, b_eqb, b_neb, i_sq, j_tup, j_lst, j_scr, i_zip, j_zip, j_zipT, j_zipL, u_tupleL, u_tupleT, deep_int, deep_bl, List.take_length, u_all2, w_upi, w_upb, w_upt, w_upl, u_len2, u_list2, k_t2, k_t3, m_l1, m_l2, m_l3, m_l4, m_l5, x_tup0, x_tup1, okMul_1, b_eqt, decide_true, decide_false, Bool.true_and, Bool.false_and, h, l_listT, mk]
theorem dB_ok (h : cf kt [.ref r, .int (N : Int)] s = .ok (.int a) s1) : exS (evE cf gl 61) 100000 60 (.set (.nm 6) (.call kt [(.var 0), (.var 1)])) (E10 r N x2 x3 x4 x5 x6 x7 x8 x9) s = .ok .next (E10 r N x2 x3 x4 x5 (some (.int a)) x7 x8 x9) s1 := by
  simp only [E10, w_bind, w_bindx, w_to, w_tox, w_quiet, w_sq, w_sqr, w_sqx, w_lp, w_lpr, w_vw, w_bw, w_fin, w_finx, k_b, k_c2, k_q2, w_or, k_c, k_ht, k_hf, k_h2, k_h, k_at, k_af, k_a, k_ot, k_of, k_o, k_n, k_T2, k_T, k_it, k_if, k_g, k_s, k_x, k_l3, k_l2, k_l, k_e2, k_e, k_as, k_u3, k_u2, k_u, k_set2, k_set, k_ret, k_ift, k_iff, k_wt, k_wf, e_cst, e_var, e_bin, e_neg, e_cmp, e_chain, e_and, e_or, e_not, e_ife, e_call, e_bi, e_isi, e_tup, e_lst, e_ix, e_sl, es_nil, es_cons, e_T, eA_one, eA_cons, eO_one, eO_cons, tr_bl, tr_int, a_nm, a_tup, a_sub, as_nil, as_cons, x_nil, x_cons, x_set, x_ife, x_ret, x_rais, List.getElem?_cons_zero, List.getElem?_cons_succ, List.length_cons, List.length_nil, List.map_cons, List.map_nil, List.cons_append, List.nil_append, Nat.reduceSub, Nat.reduceAdd, List.replicate_succ, List.replicate_zero, List.set_cons_zero, List.set_cons_succ, Nat.zero_add, Nat.sub_self, b_add, b_sub, b_ge, b_gt, b_le, b_lt, b_eq, b_ne, b_mul, b_fdiv, b_mod, u_abs, u_inti, u_intb, u_gcd, Bool.not_true, Bool.not_false, is_iI, is_iB, is_iL, is_iT, is_iLT, is_iBS, is_bI, is_bB, is_bLT, is_bBS, is_tL, is_tT, is_tLT, is_lL, is_lT, is_lLT, n_i, n_b, b_eqb, b_neb, i_sq, j_tup, j_lst, j_scr, i_zip, j_zip, j_zipT, j_zipL, u_tupleL, u_tupleT, deep_int, deep_bl, List.take_length, u_all2, w_upi, w_upb, w_upt, w_upl, u_len2, u_list2, k_t2, k_t3, m_l1, m_l2, m_l3, m_l4, m_l5, x_tup0, x_tup1, okMul_1, b_eqt, decide_true, decide_false, Bool.true_and, Bool.false_and, h]
theorem dC_ok (h : s[R]? = some (.lst false L)) (hp : place L.length a = some p) (hv : L[p]? = some (.int v)) : exS (evE cf gl 61) 100000 60 (.set (.sub (.var 5) (.var 6)) (.bin .add (.ix (.var 5) (.var 6)) (.cst (D.int (1))))) (E10 r N x2 x3 x4 (some (.ref R)) (some (.int a)) x7 x8 x9) s = .ok .next (E10 r N x2 x3 x4 (some (.ref R)) (some (.int a)) x7 x8 x9) (s.set R (.lst false (L.set p (.int (v + 1))))) := by
  have e1 : ixD (.ref R) (.int a) s = .ok (.int v) s := ix_ref _ _ _ h hp hv
  have e2 := st_ok (v := .int (v + 1)) h rfl hp
  simp only [E10, w_bind, w_bindx, w_to, w_tox, w_quiet, w_sq, w_sqr, w_sqx, w_lp, w_lpr, w_vw, w_bw, w_fin, w_finx, k_b, k_c2, k_q2, w_or, k_c, k_ht, k_hf, k_h2, k_h, k_at, k_af, k_a, k_ot, k_of, k_o, k_n, k_T2, k_T, k_it, k_if, k_g, k_s, k_x, k_l3, k_l2, k_l, k_e2, k_e, k_as, k_u3, k_u2, k_u, k_set2, k_set, k_ret, k_ift, k_iff, k_wt, k_wf, e_cst, e_var, e_bin, e_neg, e_cmp, e_chain, e_and, e_or, e_not, e_ife, e_call, e_bi, e_isi, e_tup, e_lst, e_ix, e_sl, es_nil, es_cons, e_T, eA_one, eA_cons, eO_one, eO_cons, tr_bl, tr_int, a_nm, a_tup, a_sub, as_nil, as_cons, x_nil, x_cons, x_set, x_ife, x_ret, x_rais, List.getElem?_cons_zero, List.getElem?_cons_succ, List.length_cons, List.length_nil, List.map_cons, List.map_nil, List.cons_append, List.nil_append, Nat.reduceSub, Nat.reduceAdd, List.replicate_succ, List.replicate_zero, List.set_cons_zero, List.set_cons_succ, Nat.zero_add, Nat.sub_self, b_add, b_sub, b_ge, b_gt, b_le, b_lt, b_eq, b_ne, b_mul, b_fdiv, b_mod, u_abs, u_inti, u_intb, u_gcd, Bool.not_true, Bool.not_false, is_iI, is_iB, is_iL, is_iT, is_iLT, is_iBS, is_bI, is_bB, is_bLT, is_bBS, is_tL, is_tT, is_tLT, is_lL, is_lT, is_lLT, n_i, n_b, b_eqb, b_neb, i_sq, j_tup, j_lst, j_scr, i_zip, j_zip, j_zipT, j_zipL, u_tupleL, u_tupleT, deep_int, deep_bl, List.take_length, u_all2, w_upi, w_upb, w_upt, w_upl, u_len2, u_list2, k_t2, k_t3, m_l1, m_l2, m_l3, m_l4, m_l5, x_tup0, x_tup1, okMul_1, b_eqt, decide_true, decide_false, Bool.true_and, Bool.false_and, e1, e2]
theorem dD_ok {j : Int} {p2 : Nat} (h : s[R]? = some (.lst false L)) (hp : place L.length j = some p) (hv : L[p]? = some (.int v)) (hp2 : place L.length (j - 1) = some p2) (hu : L[p2]? = some (.int u)) (huv : ¬ u > v) : exs (exS (evE cf gl 61) 100000 59) dBody (E10 r N x2 x3 x4 (some (.ref R)) x6 (some (.int j)) x8 x9) s = .ok .next (E10 r N x2 x3 x4 (some (.ref R)) x6 (some (.int j)) x8 x9) s := by
  have e1 : ixD (.ref R) (.int j) s = .ok (.int v) s := ix_ref _ _ _ h hp hv
  have e3 : ixD (.ref R) (.int (j - 1)) s = .ok (.int u) s := ix_ref _ _ _ h hp2 hu
  have e4 : biD .max [.int v, .int u] s = .ok (.int v) s := by
    show (Bw.R.ok (D.int (if u > v then u else v)) s : Bw.R D) = _
    rw [if_neg huv]
  have e2 := st_ok (v := .int v) h rfl hp
  have e5 : s.set R (.lst false (L.set p (.int v))) = s := by
    have : L.set p (.int v) = L := by
      obtain ⟨hh, e⟩ := List.getElem?_eq_some_iff.mp hv
      rw [← e]
      exact List.set_getElem_self hh
    rw [this]
    obtain ⟨hh, e⟩ := List.getElem?_eq_some_iff.mp h
    rw [← e]
    exact List.set_getElem_self hh
  rw [e5] at e2
  simp only [dBody, E10, w_bind, w_bindx, w_to, w_tox, w_quiet, w_sq, w_sqr, w_sqx, w_lp, w_lpr, w_vw, w_bw, w_fin, w_finx, k_b, k_c2, k_q2, w_or, k_c, k_ht, k_hf, k_h2, k_h, k_at, k_af, k_a, k_ot, k_of, k_o, k_n, k_T2, k_T, k_it, k_if, k_g, k_s, k_x, k_l3, k_l2, k_l, k_e2, k_e, k_as, k_u3, k_u2, k_u, k_set2, k_set, k_ret, k_ift, k_iff, k_wt, k_wf, e_cst, e_var, e_bin, e_neg, e_cmp, e_chain, e_and, e_or, e_not, e_ife, e_call, e_bi, e_isi, e_tup, e_lst, e_ix, e_sl, es_nil, es_cons, e_T, eA_one, eA_cons, eO_one, eO_cons, tr_bl, tr_int, a_nm, a_tup, a_sub, as_nil, as_cons, x_nil, x_cons, x_set, x_ife, x_ret, x_rais, List.getElem?_cons_zero, List.getElem?_cons_succ, List.length_cons, List.length_nil, List.map_cons, List.map_nil, List.cons_append, List.nil_append, Nat.reduceSub, Nat.reduceAdd, List.replicate_succ, List.replicate_zero, List.set_cons_zero, List.set_cons_succ, Nat.zero_add, Nat.sub_self, b_add, b_sub, b_ge, b_gt, b_le, b_lt, b_eq, b_ne, b_mul, b_fdiv, b_mod, u_abs, u_inti, u_intb, u_gcd, Bool.not_true, Bool.not_false, is_iI, is_iB, is_iL, is_iT, is_iLT, is_iBS, is_bI, is_bB, is_bLT, is_bBS, is_tL, is_tT, is_tLT, is_lL, is_lT, is_lLT, n_i, n_b, b_eqb, b_neb, i_sq, j_tup, j_lst, j_scr, i_zip, j_zip, j_zipT, j_zipL, u_tupleL, u_tupleT, deep_int, deep_bl, List.take_length, u_all2, w_upi, w_upb, w_upt, w_upl, u_len2, u_list2, k_t2, k_t3, m_l1, m_l2, m_l3, m_l4, m_l5, x_tup0, x_tup1, okMul_1, b_eqt, decide_true, decide_false, Bool.true_and, Bool.false_and, e1, e3, e4, e2]
theorem place_in {N : Nat} {j : Int} (h0 : 0 ≤ j) (h1 : j < N) : place N j = some j.toNat := by
  unfold place
  rw [if_pos h0, if_pos h1]
theorem bump_get {j : Int} (h0 : 0 ≤ j) (h1 : j < N) : ((bumpI N st a).map D.int)[j.toNat]? = some (.int (if j = a then st + a + 1 else j + st)) := by
  unfold bumpI
  rw [tabI_map_at (by omega)]
  congr 2
  rw [show ((j.toNat : Nat) : Int) = j by omega]
theorem dLoop {n0 : Nat} (h : s[R]? = some (.lst false ((bumpI N st a).map D.int))) (ha : 0 ≤ a) : ∀ (js : List Int) (t : Nat) (x7 : Option D), (∀ j ∈ js, a < j ∧ j < N) →
    ∃ y7, exFor (evE cf gl 61) (exS (evE cf gl 61) 100000 59) (.nm 7) dBody none n0 t (js.map D.int) (E10 r N x2 x3 x4 (some (.ref R)) x6 x7 x8 x9) s = .ok .next (E10 r N x2 x3 x4 (some (.ref R)) x6 y7 x8 x9) s
  | [], t, x7, _ => ⟨x7, rfl⟩
  | j :: js, t, x7, hj => by
    have b := hj j (List.mem_cons_self ..)
    have q := dD_ok (cf := cf) (gl := gl) (r := r) (N := N) (x2 := x2) (x3 := x3) (x4 := x4) (x6 := x6) (x8 := x8) (x9 := x9) h (by rw [List.length_map, bump_len]; exact place_in (show 0 ≤ j by omega) b.2) (bump_get (by omega) b.2) (by rw [List.length_map, bump_len]; exact place_in (show 0 ≤ j - 1 by omega) (by omega)) (bump_get (by omega) (by omega)) (by split <;> split <;> omega)
    obtain ⟨y7, p⟩ := dLoop h ha js (t + 1) (some (.int j)) (fun z hz => hj z (List.mem_cons_of_mem _ hz))
    refine ⟨y7, ?_⟩
    rw [List.map_cons, for_step (e1 := E10 r N x2 x3 x4 (some (.ref R)) x6 (some (.int j)) x8 x9) rfl q, p]
theorem i_rg2 {f : Ev} {A B : C} {e : En} {i j : Int} {xs : List D} (h1 : f A e s = .ok (.int i) s) (h2 : f B e s = .ok (.int j) s) (h3 : rangeD i j = some xs) : evIt f (.rg2 A B) e s = .ok (none, xs) s := by
  show (f A e s).bind _ = _
  rw [h1, w_bind, h2, w_bind]
  simp only [h3]
theorem rg2_ints {i j : Int} (hi : 0 ≤ i) (hi2 : i ≤ 1000000) (hj : 0 ≤ j) (hj2 : j ≤ 1000000) : ∃ js : List Int, rangeD i j = some (js.map D.int) ∧ ∀ z ∈ js, i ≤ z ∧ z < j := by
  refine ⟨(List.range (j - i).toNat).map fun q : Nat => i + (q : Int), ?_, fun z hz => ?_⟩
  · have c : decide (-(2 ^ 62) ≤ i ∧ i < 2 ^ 62 ∧ -(2 ^ 62) ≤ j ∧ j < 2 ^ 62) = true := decide_eq_true (by omega)
    rw [rangeD_if, List.map_map]
    exact if_pos c
  · obtain ⟨q, hq, rfl⟩ := List.mem_map.mp hz
    have := List.mem_range.mp hq
    omega
theorem dFor_ok (h : s[R]? = some (.lst false ((bumpI N st a).map D.int))) (ha : 0 ≤ a) (ha2 : a < N) (hN : N ≤ 1000) :
    ∃ y7, exS (evE cf gl 61) 100000 60 (.for_ (.nm 7) (.rg2 (.bin .add (.var 6) (.cst (D.int (1)))) (.var 1)) dBody) (E10 r N x2 x3 x4 (some (.ref R)) (some (.int a)) x7 x8 x9) s = .ok .next (E10 r N x2 x3 x4 (some (.ref R)) (some (.int a)) y7 x8 x9) s := by
  obtain ⟨js, h3, h4⟩ := rg2_ints (i := a + 1) (j := (N : Int)) (by omega) (by omega) (by omega) (by omega)
  have hi : evIt (evE cf gl 61) (.rg2 (.bin .add (.var 6) (.cst (D.int (1)))) (.var 1)) (E10 r N x2 x3 x4 (some (.ref R)) (some (.int a)) x7 x8 x9) s = .ok (none, js.map D.int) s := i_rg2 (by simp only [E10, w_bind, w_bindx, w_to, w_tox, w_quiet, w_sq, w_sqr, w_sqx, w_lp, w_lpr, w_vw, w_bw, w_fin, w_finx, k_b, k_c2, k_q2, w_or, k_c, k_ht, k_hf, k_h2, k_h, k_at, k_af, k_a, k_ot, k_of, k_o, k_n, k_T2, k_T, k_it, k_if, k_g, k_s, k_x, k_l3, k_l2, k_l, k_e2, k_e, k_as, k_u3, k_u2, k_u, k_set2, k_set, k_ret, k_ift, k_iff, k_wt, k_wf, e_cst, e_var, e_bin, e_neg, e_cmp, e_chain, e_and, e_or, e_not, e_ife, e_call, e_bi, e_isi, e_tup, e_lst, e_ix, e_sl, es_nil, es_cons, e_T, eA_one, eA_cons, eO_one, eO_cons, tr_bl, tr_int, a_nm, a_tup, a_sub, as_nil, as_cons, x_nil, x_cons, x_set, x_ife, x_ret, x_rais, List.getElem?_cons_zero, List.getElem?_cons_succ, List.length_cons, List.length_nil, List.map_cons, List.map_nil, List.cons_append, List.nil_append, Nat.reduceSub, Nat.reduceAdd, List.replicate_succ, List.replicate_zero, List.set_cons_zero, List.set_cons_succ, Nat.zero_add, Nat.sub_self, b_add, b_sub, b_ge, b_gt, b_le, b_lt, b_eq, b_ne, b_mul, b_fdiv, b_mod, u_abs, u_inti, u_intb, u_gcd, Bool.not_true, Bool.not_false, is_iI, is_iB, is_iL, is_iT, is_iLT, is_iBS, is_bI, is_bB, is_bLT, is_bBS, is_tL, is_tT, is_tLT, is_lL, is_lT, is_lLT, n_i, n_b, b_eqb, b_neb, i_sq, j_tup, j_lst, j_scr, i_zip, j_zip, j_zipT, j_zipL, u_tupleL, u_tupleT, deep_int, deep_bl, List.take_length, u_all2, w_upi, w_upb, w_upt, w_upl, u_len2, u_list2, k_t2, k_t3, m_l1, m_l2, m_l3, m_l4, m_l5, x_tup0, x_tup1, okMul_1, b_eqt, decide_true, decide_false, Bool.true_and, Bool.false_and]) (by simp only [E10, w_bind, w_bindx, w_to, w_tox, w_quiet, w_sq, w_sqr, w_sqx, w_lp, w_lpr, w_vw, w_bw, w_fin, w_finx, k_b, k_c2, k_q2, w_or, k_c, k_ht, k_hf, k_h2, k_h, k_at, k_af, k_a, k_ot, k_of, k_o, k_n, k_T2, k_T, k_it, k_if, k_g, k_s, k_x, k_l3, k_l2, k_l, k_e2, k_e, k_as, k_u3, k_u2, k_u, k_set2, k_set, k_ret, k_ift, k_iff, k_wt, k_wf, e_cst, e_var, e_bin, e_neg, e_cmp, e_chain, e_and, e_or, e_not, e_ife, e_call, e_bi, e_isi, e_tup, e_lst, e_ix, e_sl, es_nil, es_cons, e_T, eA_one, eA_cons, eO_one, eO_cons, tr_bl, tr_int, a_nm, a_tup, a_sub, as_nil, as_cons, x_nil, x_cons, x_set, x_ife, x_ret, x_rais, List.getElem?_cons_zero, List.getElem?_cons_succ, List.length_cons, List.length_nil, List.map_cons, List.map_nil, List.cons_append, List.nil_append, Nat.reduceSub, Nat.reduceAdd, List.replicate_succ, List.replicate_zero, List.set_cons_zero, List.set_cons_succ, Nat.zero_add, Nat.sub_self, b_add, b_sub, b_ge, b_gt, b_le, b_lt, b_eq, b_ne, b_mul, b_fdiv, b_mod, u_abs, u_inti, u_intb, u_gcd, Bool.not_true, Bool.not_false, is_iI, is_iB, is_iL, is_iT, is_iLT, is_iBS, is_bI, is_bB, is_bLT, is_bBS, is_tL, is_tT, is_tLT, is_lL, is_lT, is_lLT, n_i, n_b, b_eqb, b_neb, i_sq, j_tup, j_lst, j_scr, i_zip, j_zip, j_zipT, j_zipL, u_tupleL, u_tupleT, deep_int, deep_bl, List.take_length, u_all2, w_upi, w_upb, w_upt, w_upl, u_len2, u_list2, k_t2, k_t3, m_l1, m_l2, m_l3, m_l4, m_l5, x_tup0, x_tup1, okMul_1, b_eqt, decide_true, decide_false, Bool.true_and, Bool.false_and]) h3
  obtain ⟨y7, q⟩ := dLoop (cf := cf) (gl := gl) (r := r) (x2 := x2) (x3 := x3) (x4 := x4) (x6 := some (.int a)) (x8 := x8) (x9 := x9) (n0 := (js.map D.int).length) h ha js 0 x7 (fun j hj => by have := h4 j hj; omega)
  refine ⟨y7, ?_⟩
  rw [x_for, hi, w_to]
  exact q
end
end Bw

set_option linter.all false
set_option maxRecDepth 100000
set_option maxHeartbeats 1000000
/-! Bw: a drawn disk, whole -/
namespace Bw
open PySem
section
variable {gl : PySem.Str → Option D} {P : List F} {k kt kh n N r M R p : Nat} {s s1 s2 S : Sto} {cf : CF} {a b w st u v : Int} {x2 x3 x4 x5 x6 x7 x8 x9 : Option D} {L : List D}
def dMin : C := .comp false (.bi .min [(.var 8), (.bin .add (.ix (.var 5) (.cst (D.int (0)))) (.var 1))]) [8] (.nm 8) (.sq (.var 5)) none
theorem u_min2 {i j : Int} (h : ¬ j < i) (s : Sto) : biD .min [.int i, .int j] s = .ok (.int i) s := by
  show (Bw.R.ok (D.int (if j < i then j else i)) s : Bw.R D) = _
  rw [if_neg h]
theorem j_refB {lk : Bool} {xs : List D} (h : s[R]? = some (.lst lk xs)) : Jsq (.ref R) s = .ok (some (R, .bk false), xs) s := by
  show (match s[R]? with
    | some (.lst _ xs) => (Bw.R.ok (some (R, Md.bk false), xs) s : Bw.R (Src × List D))
    | _ => .fail) = _
  rw [h]
theorem beq_int (i : Int) : beqD (.int i) (.int i) = true := by
  show decide (i = i) = true
  exact decide_eq_true rfl
theorem dMin_ok {L : List Int} (h : s[R]? = some (.lst false (L.map D.int))) (h0 : L[0]? = some u) (hm : ∀ x ∈ L, x ≤ u + N) (hl : L.length ≤ 1000) :
    evE cf gl 60 dMin (E10 r N x2 x3 x4 (some (.ref R)) x6 x7 x8 x9) s = .ok (.lst (L.map D.int)) s := by
  have hi : evIt (evE cf gl 59) (.sq (.var 5)) (E10 r N x2 x3 x4 (some (.ref R)) x6 x7 x8 x9) s = .ok (some (R, .bk false), L.map D.int) s := by
    rw [i_sq]
    simp only [E10, w_bind, w_bindx, w_to, w_tox, w_quiet, w_sq, w_sqr, w_sqx, w_lp, w_lpr, w_vw, w_bw, w_fin, w_finx, k_b, k_c2, k_q2, w_or, k_c, k_ht, k_hf, k_h2, k_h, k_at, k_af, k_a, k_ot, k_of, k_o, k_n, k_T2, k_T, k_it, k_if, k_g, k_s, k_x, k_l3, k_l2, k_l, k_e2, k_e, k_as, k_u3, k_u2, k_u, k_set2, k_set, k_ret, k_ift, k_iff, k_wt, k_wf, e_cst, e_var, e_bin, e_neg, e_cmp, e_chain, e_and, e_or, e_not, e_ife, e_call, e_bi, e_isi, e_tup, e_lst, e_ix, e_sl, es_nil, es_cons, e_T, eA_one, eA_cons, eO_one, eO_cons, tr_bl, tr_int, a_nm, a_tup, a_sub, as_nil, as_cons, x_nil, x_cons, x_set, x_ife, x_ret, x_rais, List.getElem?_cons_zero, List.getElem?_cons_succ, List.length_cons, List.length_nil, List.map_cons, List.map_nil, List.cons_append, List.nil_append, Nat.reduceSub, Nat.reduceAdd, List.replicate_succ, List.replicate_zero, List.set_cons_zero, List.set_cons_succ, Nat.zero_add, Nat.sub_self, b_add, b_sub, b_ge, b_gt, b_le, b_lt, b_eq, b_ne, b_mul, b_fdiv, b_mod, u_abs, u_inti, u_intb, u_gcd, Bool.not_true, Bool.not_false, is_iI, is_iB, is_iL, is_iT, is_iLT, is_iBS, is_bI, is_bB, is_bLT, is_bBS, is_tL, is_tT, is_tLT, is_lL, is_lT, is_lLT, n_i, n_b, b_eqb, b_neb, i_sq, j_tup, j_lst, j_scr, i_zip, j_zip, j_zipT, j_zipL, u_tupleL, u_tupleT, deep_int, deep_bl, List.take_length, u_all2, w_upi, w_upb, w_upt, w_upl, u_len2, u_list2, k_t2, k_t3, m_l1, m_l2, m_l3, m_l4, m_l5, x_tup0, x_tup1, okMul_1, b_eqt, decide_true, decide_false, Bool.true_and, Bool.false_and]
    exact j_refB h
  have q := comp_mapR (f := evE cf gl 59) (el := .bi .min [(.var 8), (.bin .add (.ix (.var 5) (.cst (D.int (0)))) (.var 1))]) (t := .nm 8) (rho := wipeE (E10 r N x2 x3 x4 (some (.ref R)) x6 x7 x8 x9) [8]) (g := fun y => y) h (L.map D.int) [] 0 (by rw [List.length_nil, List.length_map, Nat.zero_add]; exact Nat.le_trans hl (by decide)) rfl (fun x hx => by
      obtain ⟨i, _, rfl⟩ := List.mem_map.mp hx
      exact beq_int i) (fun x hx s1 hs1 => by
      obtain ⟨i, hi, rfl⟩ := List.mem_map.mp hx
      have e1 : ixD (.ref R) (.int 0) s1 = .ok (.int u) s1 := ix_ref (p := 0) _ _ _ hs1 (by
        have := (List.getElem?_eq_some_iff.mp h0).1
        rw [List.length_map]
        exact place_in (by decide) (by omega)) (by rw [List.getElem?_map, h0]; rfl)
      have e2 := u_min2 (i := i) (j := u + N) (by have := hm i hi; omega) s1
      refine ⟨_, a_nm _ _ _ _ _, ?_, rfl⟩
      simp only [wipeE, E10, w_bind, w_bindx, w_to, w_tox, w_quiet, w_sq, w_sqr, w_sqx, w_lp, w_lpr, w_vw, w_bw, w_fin, w_finx, k_b, k_c2, k_q2, w_or, k_c, k_ht, k_hf, k_h2, k_h, k_at, k_af, k_a, k_ot, k_of, k_o, k_n, k_T2, k_T, k_it, k_if, k_g, k_s, k_x, k_l3, k_l2, k_l, k_e2, k_e, k_as, k_u3, k_u2, k_u, k_set2, k_set, k_ret, k_ift, k_iff, k_wt, k_wf, e_cst, e_var, e_bin, e_neg, e_cmp, e_chain, e_and, e_or, e_not, e_ife, e_call, e_bi, e_isi, e_tup, e_lst, e_ix, e_sl, es_nil, es_cons, e_T, eA_one, eA_cons, eO_one, eO_cons, tr_bl, tr_int, a_nm, a_tup, a_sub, as_nil, as_cons, x_nil, x_cons, x_set, x_ife, x_ret, x_rais, List.getElem?_cons_zero, List.getElem?_cons_succ, List.length_cons, List.length_nil, List.map_cons, List.map_nil, List.cons_append, List.nil_append, Nat.reduceSub, Nat.reduceAdd, List.replicate_succ, List.replicate_zero, List.set_cons_zero, List.set_cons_succ, Nat.zero_add, Nat.sub_self, b_add, b_sub, b_ge, b_gt, b_le, b_lt, b_eq, b_ne, b_mul, b_fdiv, b_mod, u_abs, u_inti, u_intb, u_gcd, Bool.not_true, Bool.not_false, is_iI, is_iB, is_iL, is_iT, is_iLT, is_iBS, is_bI, is_bB, is_bLT, is_bBS, is_tL, is_tT, is_tLT, is_lL, is_lT, is_lLT, n_i, n_b, b_eqb, b_neb, i_sq, j_tup, j_lst, j_scr, i_zip, j_zip, j_zipT, j_zipL, u_tupleL, u_tupleT, deep_int, deep_bl, List.take_length, u_all2, w_upi, w_upb, w_upt, w_upl, u_len2, u_list2, k_t2, k_t3, m_l1, m_l2, m_l3, m_l4, m_l5, x_tup0, x_tup1, okMul_1, b_eqt, decide_true, decide_false, Bool.true_and, Bool.false_and, e1, e2])
  unfold dMin
  rw [e_comp, hi, w_bind, k_m, q, w_quiet, w_bind, k_m2]
  have e0 : (s ++ [SO.lst true ([] ++ (L.map D.int).map fun y => y)])[s.length]? = some (SO.lst true (L.map D.int)) := by simp
  rw [e0, k_m3f]
  simp
theorem dR_ok {c : C} {e : En} {l : List Int} (q : evE cf gl 60 c e s = .ok (.lst (l.map D.int)) s1) : exS (evE cf gl 61) 100000 60 (.ret (.bi .tuple [c])) e s = .ok (.ret (TI l)) e s1 := by
  simp only [w_bind, w_bindx, w_to, w_tox, w_quiet, w_sq, w_sqr, w_sqx, w_lp, w_lpr, w_vw, w_bw, w_fin, w_finx, k_b, k_c2, k_q2, w_or, k_c, k_ht, k_hf, k_h2, k_h, k_at, k_af, k_a, k_ot, k_of, k_o, k_n, k_T2, k_T, k_it, k_if, k_g, k_s, k_x, k_l3, k_l2, k_l, k_e2, k_e, k_as, k_u3, k_u2, k_u, k_set2, k_set, k_ret, k_ift, k_iff, k_wt, k_wf, e_cst, e_var, e_bin, e_neg, e_cmp, e_chain, e_and, e_or, e_not, e_ife, e_call, e_bi, e_isi, e_tup, e_lst, e_ix, e_sl, es_nil, es_cons, e_T, eA_one, eA_cons, eO_one, eO_cons, tr_bl, tr_int, a_nm, a_tup, a_sub, as_nil, as_cons, x_nil, x_cons, x_set, x_ife, x_ret, x_rais, List.getElem?_cons_zero, List.getElem?_cons_succ, List.length_cons, List.length_nil, List.map_cons, List.map_nil, List.cons_append, List.nil_append, Nat.reduceSub, Nat.reduceAdd, List.replicate_succ, List.replicate_zero, List.set_cons_zero, List.set_cons_succ, Nat.zero_add, Nat.sub_self, b_add, b_sub, b_ge, b_gt, b_le, b_lt, b_eq, b_ne, b_mul, b_fdiv, b_mod, u_abs, u_inti, u_intb, u_gcd, Bool.not_true, Bool.not_false, is_iI, is_iB, is_iL, is_iT, is_iLT, is_iBS, is_bI, is_bB, is_bLT, is_bBS, is_tL, is_tT, is_tLT, is_lL, is_lT, is_lLT, n_i, n_b, b_eqb, b_neb, i_sq, j_tup, j_lst, j_scr, i_zip, j_zip, j_zipT, j_zipL, u_tupleL, u_tupleT, deep_int, deep_bl, List.take_length, u_all2, w_upi, w_upb, w_upt, w_upl, u_len2, u_list2, k_t2, k_t3, m_l1, m_l2, m_l3, m_l4, m_l5, x_tup0, x_tup1, okMul_1, b_eqt, decide_true, decide_false, Bool.true_and, Bool.false_and, q]
theorem dB3_eq : dB3 kt kh = [(.set (.nm 5) (.bi .listR [(.call kh [(.var 1), (.var 3)])])), (.set (.nm 6) (.call kt [(.var 0), (.var 1)])), (.set (.sub (.var 5) (.var 6)) (.bin .add (.ix (.var 5) (.var 6)) (.cst (D.int (1))))), (.for_ (.nm 7) (.rg2 (.bin .add (.var 6) (.cst (D.int (1)))) (.var 1)) dBody), (.ret (.bi .tuple [dMin]))] := rfl
theorem kind1 (hN0 : 0 < N) (hN : N ≤ 1000) (T : Tin r M s) (hM : M < 1000000) (hh : cf kh [.int (N : Int), .int st] s = .ok (TI (shI N st)) s)
    (tk : ∀ (S : Sto) (m : Nat), Tin r m S → m < 1000000 → ∃ (k : Int) (S' : Sto), cf kt [.ref r, .int (N : Int)] S = .ok (.int k) S' ∧ 0 ≤ k ∧ k < N ∧ Tin r (m + 1) S' ∧ S'.length = S.length ∧ ∀ q, q ≠ r → S'[q]? = S[q]?) :
    ∃ (d : List Int) (s2 : Sto) (e2 : En), exs (exS (evE cf gl 61) 100000 60) (dB3 kt kh) (E10 r N x2 (some (.int st)) x4 x5 x6 x7 x8 x9) s = .ok (.ret (TI d)) e2 s2 ∧ Wh d ∧ d.length = N ∧ Tin r (M + 1) s2 ∧ s.length ≤ s2.length ∧ ∀ q, q ≠ r → q < s.length → s2[q]? = s[q]? := by
  have hr := T.lt
  have hlim : N ≤ lim := Nat.le_trans hN (by decide)
  obtain ⟨a, S1, t1, t2, t3, t4, t5, t6⟩ := tk (s ++ [.lst false ((shI N st).map D.int)]) M (T.mono (by rw [List.getElem?_append_left hr])) hM
  obtain ⟨p, rfl⟩ := Int.eq_ofNat_of_zero_le t2
  have hR : S1[s.length]? = some (.lst false ((shI N st).map D.int)) := by
    rw [t6 s.length (by omega)]
    simp
  have hlt := (List.getElem?_eq_some_iff.mp hR).1
  have c1 := dA_ok (cf := cf) (gl := gl) (r := r) (x2 := x2) (x4 := x4) (x6 := x6) (x7 := x7) (x8 := x8) (x9 := x9) (x5 := x5) hh (by rw [shI_len]; exact hlim)
  have c2 := dB_ok (gl := gl) (x2 := x2) (x3 := some (.int st)) (x4 := x4) (x5 := some (.ref s.length)) (x6 := x6) (x7 := x7) (x8 := x8) (x9 := x9) t1
  have c3 := dC_ok (cf := cf) (gl := gl) (r := r) (N := N) (x2 := x2) (x3 := some (.int st)) (x4 := x4) (x7 := x7) (x8 := x8) (x9 := x9) hR (a := (p : Int)) (p := p) (v := (p : Int) + st) (by rw [List.length_map, shI_len]; exact place_in t2 t3) (tabI_map_at (h := fun i => i + st) (show p < N by omega))
  rw [bump_set (show p < N by omega)] at c3
  have hR2 : (S1.set s.length (.lst false ((bumpI N st (p : Int)).map D.int)))[s.length]? = some (.lst false ((bumpI N st (p : Int)).map D.int)) := List.getElem?_set_self hlt
  obtain ⟨y7, c4⟩ := dFor_ok (cf := cf) (gl := gl) (r := r) (x2 := x2) (x3 := some (.int st)) (x4 := x4) (x7 := x7) (x8 := x8) (x9 := x9) hR2 t2 t3 hN
  have c5 := dR_ok (dMin_ok (cf := cf) (gl := gl) (r := r) (N := N) (x2 := x2) (x3 := some (.int st)) (x4 := x4) (x6 := some (.int (p : Int))) (x7 := y7) (x8 := x8) (x9 := x9) (u := if ((0 : Nat) : Int) = (p : Int) then st + p + 1 else ((0 : Nat) : Int) + st) hR2 (by
      unfold bumpI tabI
      rw [List.getElem?_map, List.getElem?_range hN0]
      rfl) (fun x hx => by
      obtain ⟨i, hi, rfl⟩ := List.mem_map.mp hx
      have := List.mem_range.mp hi
      show (if (i : Int) = (p : Int) then st + p + 1 else (i : Int) + st) ≤ (if ((0 : Nat) : Int) = (p : Int) then st + p + 1 else ((0 : Nat) : Int) + st) + N
      split <;> split <;> omega) (by rw [bump_len]; exact hN))
  have run : exs (exS (evE cf gl 61) 100000 60) (dB3 kt kh) (E10 r N x2 (some (.int st)) x4 x5 x6 x7 x8 x9) s = .ok (.ret (TI (bumpI N st (p : Int)))) (E10 r N x2 (some (.int st)) x4 (some (.ref s.length)) (some (.int (p : Int))) y7 x8 x9) (S1.set s.length (.lst false ((bumpI N st (p : Int)).map D.int))) := by
    rw [dB3_eq, x_cons, c1, w_sq, x_cons, c2, w_sq, x_cons, c3, w_sq, x_cons, c4, w_sq, x_cons, c5, w_sqr]
  refine ⟨_, _, _, run, bump_wh (st := st) (k := (p : Int)) hN0, bump_len _ _ _, (t4.mono (s' := S1.set s.length (.lst false ((bumpI N st (p : Int)).map D.int))) (by rw [List.getElem?_set_ne (by omega)])), by rw [List.length_set, t5, List.length_append]; omega, fun q hq hq2 => ?_⟩
  rw [List.getElem?_set_ne (by omega), t6 q hq, List.getElem?_append_left hq2]
end
end Bw

set_option linter.all false
set_option maxRecDepth 100000
set_option maxHeartbeats 1000000
/-! Bw: a drawn disk, by its def -/
namespace Bw
open PySem
section
variable {gl : PySem.Str → Option D} {P : List F} {k kt kh n N r M : Nat} {s s1 : Sto} {cf : CF} {st : Int} {x2 x3 x4 x5 x6 x7 x8 x9 : Option D}
theorem dS3_yes {e2 : En} {v : D} (h : exs (exS (evE cf gl 61) 100000 60) (dB3 kt kh) (E10 r N x2 x3 (some (.int 1)) x5 x6 x7 x8 x9) s = .ok (.ret v) e2 s1) : exS (evE cf gl 61) 100000 61 (dS3 kt kh) (E10 r N x2 x3 (some (.int 1)) x5 x6 x7 x8 x9) s = .ok (.ret v) e2 s1 := by
  have c : evT (evE cf gl 61) (.cmp .eq (.var 4) (.cst (D.int (1)))) (E10 r N x2 x3 (some (.int 1)) x5 x6 x7 x8 x9) s = .ok true s := by
    simp only [E10, w_bind, w_bindx, w_to, w_tox, w_quiet, w_sq, w_sqr, w_sqx, w_lp, w_lpr, w_vw, w_bw, w_fin, w_finx, k_b, k_c2, k_q2, w_or, k_c, k_ht, k_hf, k_h2, k_h, k_at, k_af, k_a, k_ot, k_of, k_o, k_n, k_T2, k_T, k_it, k_if, k_g, k_s, k_x, k_l3, k_l2, k_l, k_e2, k_e, k_as, k_u3, k_u2, k_u, k_set2, k_set, k_ret, k_ift, k_iff, k_wt, k_wf, e_cst, e_var, e_bin, e_neg, e_cmp, e_chain, e_and, e_or, e_not, e_ife, e_call, e_bi, e_isi, e_tup, e_lst, e_ix, e_sl, es_nil, es_cons, e_T, eA_one, eA_cons, eO_one, eO_cons, tr_bl, tr_int, a_nm, a_tup, a_sub, as_nil, as_cons, x_nil, x_cons, x_set, x_ife, x_ret, x_rais, List.getElem?_cons_zero, List.getElem?_cons_succ, List.length_cons, List.length_nil, List.map_cons, List.map_nil, List.cons_append, List.nil_append, Nat.reduceSub, Nat.reduceAdd, List.replicate_succ, List.replicate_zero, List.set_cons_zero, List.set_cons_succ, Nat.zero_add, Nat.sub_self, b_add, b_sub, b_ge, b_gt, b_le, b_lt, b_eq, b_ne, b_mul, b_fdiv, b_mod, u_abs, u_inti, u_intb, u_gcd, Bool.not_true, Bool.not_false, is_iI, is_iB, is_iL, is_iT, is_iLT, is_iBS, is_bI, is_bB, is_bLT, is_bBS, is_tL, is_tT, is_tLT, is_lL, is_lT, is_lLT, n_i, n_b, b_eqb, b_neb, i_sq, j_tup, j_lst, j_scr, i_zip, j_zip, j_zipT, j_zipL, u_tupleL, u_tupleT, deep_int, deep_bl, List.take_length, u_all2, w_upi, w_upb, w_upt, w_upl, u_len2, u_list2, k_t2, k_t3, m_l1, m_l2, m_l3, m_l4, m_l5, x_tup0, x_tup1, okMul_1, b_eqt, decide_true, decide_false, Bool.true_and, Bool.false_and]
  unfold dS3
  rw [x_ife, c, w_to]
  exact h
theorem fin_TI {e : En} {m : Nat} {d : List Int} : fin m (.ok (.ret (TI d)) e s1) = .ok (TI d) (s1.take m) := back_TI m d s1
/-- the box and all else behind a run, cut back -/
theorem cut_back {d : List Int} {M1 : Nat} {s2 : Sto} (W : Wh d) (hd : d.length = N) (T0 : Tin r M s) (T : Tin r M1 s2) (hM : M1 ≤ M + N + 3) (hl : s.length ≤ s2.length) (hq : ∀ q, q ≠ r → q < s.length → s2[q]? = s[q]?) : DiskAt N r M s d (s2.take s.length) where
  wh := W
  len := hd
  box := ⟨M1, hM, T.mono (by rw [List.getElem?_take, if_pos T0.lt])⟩
  size := by rw [List.length_take]; omega
  rest := fun q h => by
    rw [List.getElem?_take]
    split
    · rename_i c
      exact hq q h c
    · rename_i c
      rw [List.getElem?_eq_none (by omega)]
theorem disk_b (hN0 : 0 < N) (hN : N ≤ 1000) (T : Tin r M s) (hM : M < 900000)
    (tk : ∀ (w : Int) (S : Sto) (m : Nat), 0 < w → w < 1000000 → Tin r m S → m < 1000000 → ∃ (k : Int) (S' : Sto), cf kt [.ref r, .int w] S = .ok (.int k) S' ∧ 0 ≤ k ∧ k < w ∧ Tin r (m + 1) S' ∧ S'.length = S.length ∧ ∀ q, q ≠ r → S'[q]? = S[q]?)
    (hh : ∀ st S, cf kh [.int (N : Int), .int st] S = .ok (TI (shI N st)) S) :
    ∃ (d : List Int) (s2 : Sto), fin s.length (exs (exS (evE cf gl 61) 100000 61) [dS1 kt, dS2 kh, dS3 kt kh, dS4 kt, dS5 kt] (E10 r N none none none none none none none none) s) = .ok (TI d) s2 ∧ DiskAt N r M s d s2 := by
  obtain ⟨a, s1, t1, t2, t3, t4, t5, t6⟩ := tk (3 * (N : Int)) s M (by omega) (by omega) T (by omega)
  obtain ⟨b, s2, u1, u2, u3, u4, u5, u6⟩ := tk 5 s1 (M + 1) (by omega) (by omega) t4 (by omega)
  have c1 := dS1_ok (gl := gl) t1 u1 (okMul_r (by omega) (by omega))
  have l2 : s2.length = s.length := by omega
  have r2 : ∀ q, q ≠ r → s2[q]? = s[q]? := fun q hq => by rw [u6 q hq, t6 q hq]
  by_cases b0 : b = 0
  · subst b0
    have c2 := dS2_yes (gl := gl) (r := r) (N := N) (x2 := none) (x5 := none) (x6 := none) (x7 := none) (x8 := none) (x9 := none) (hh (a - N) s2)
    exact ⟨_, _, by rw [x_cons, c1, w_sq, x_cons, c2, w_sqr, fin_TI], cut_back (shI_wh hN0) (shI_len _ _) T u4 (by omega) (by omega) (fun q hq _ => r2 q hq)⟩
  have c2 := dS2_no (cf := cf) (gl := gl) (kh := kh) (r := r) (N := N) (s := s2) (x2 := none) (x3 := some (.int (a - N))) (x5 := none) (x6 := none) (x7 := none) (x8 := none) (x9 := none) (decide_eq_false b0)
  by_cases b1 : b = 1
  · subst b1
    obtain ⟨d, s3, e3, k1, k2, k3, k4, k5, k6⟩ := kind1 (cf := cf) (gl := gl) (kh := kh) (x2 := none) (x4 := some (.int 1)) (x5 := none) (x6 := none) (x7 := none) (x8 := none) (x9 := none) hN0 hN u4 (by omega) (hh (a - N) s2) (fun S m => tk (N : Int) S m (by omega) (by omega))
    have c3 := dS3_yes k1
    exact ⟨_, _, by rw [x_cons, c1, w_sq, x_cons, c2, w_sq, x_cons, c3, w_sqr, fin_TI], cut_back k2 k3 T k4 (by omega) (by omega) (fun q hq hl => by rw [k6 q hq (by omega), r2 q hq])⟩
  have c3 := dS3_no (cf := cf) (gl := gl) (kt := kt) (kh := kh) (r := r) (N := N) (s := s2) (x2 := none) (x3 := some (.int (a - N))) (x5 := none) (x6 := none) (x7 := none) (x8 := none) (x9 := none) (decide_eq_false b1)
  by_cases b2 : 2 < b
  · have c4 := dS4_gt (cf := cf) (gl := gl) (kt := kt) (r := r) (N := N) (s := s2) (x2 := none) (x3 := some (.int (a - N))) (x5 := none) (x6 := none) (x7 := none) (x8 := none) (x9 := none) (decide_eq_true b2)
    obtain ⟨d, s3, k1, k2, k3, k4, k5, k6⟩ := sorted_part (gl := gl) (st := a - N) (x4 := some (.int b)) (x5 := none) (x6 := none) (x7 := none) (x8 := none) (x9 := none) hN0 hN u4 (by omega) (w := (N : Int) + 1) (by omega) (by omega) (fun S m => tk ((N : Int) + 1) S m (by omega) (by omega))
    exact ⟨_, _, by rw [x_cons, c1, w_sq, x_cons, c2, w_sq, x_cons, c3, w_sq, x_cons, c4, w_sq, x_cons, k1, w_sqr, fin_TI], cut_back k2 k3 T k4 (by omega) (by omega) (fun q hq hl => by rw [k6 q hq, r2 q hq])⟩
  · obtain ⟨w, s3, v1, v2, v3, v4, v5, v6⟩ := tk (N : Int) s2 (M + 2) (by omega) (by omega) u4 (by omega)
    have c4 := dS4_le (gl := gl) (x2 := none) (x3 := some (.int (a - N))) (x5 := none) (x6 := none) (x7 := none) (x8 := none) (x9 := none) (decide_eq_false b2) v1
    obtain ⟨d, s4, k1, k2, k3, k4, k5, k6⟩ := sorted_part (gl := gl) (st := a - N) (x4 := some (.int b)) (x5 := none) (x6 := none) (x7 := none) (x8 := none) (x9 := none) hN0 hN v4 (by omega) (w := 1 + w) (by omega) (by omega) (fun S m => tk (1 + w) S m (by omega) (by omega))
    exact ⟨_, _, by rw [x_cons, c1, w_sq, x_cons, c2, w_sq, x_cons, c3, w_sq, x_cons, c4, w_sq, x_cons, k1, w_sqr, fin_TI], cut_back k2 k3 T k4 (by omega) (by omega) (fun q hq hl => by rw [k6 q hq, v6 q hq, r2 q hq])⟩
theorem disk_ok (h : P[k]? = some (fDisk kt kh)) (ht : P[kt]? = some fTake) (hs : P[kh]? = some fShift) (hN0 : 0 < N) (hN : N ≤ 1000) (T : Tin r M s) (hM : M < 900000) :
    ∃ (d : List Int) (s2 : Sto), callF gl P (n + 2) k [.ref r, .int (N : Int)] s = .ok (TI d) s2 ∧ DiskAt N r M s d s2 := by
  obtain ⟨d, s2, q, w⟩ := disk_b (gl := gl) (cf := callF gl P (n + 1)) (kt := kt) (kh := kh) hN0 hN T hM (fun w S m w0 w1 t m1 => take_ok ht t w0 w1 m1) (fun st S => shift_ok hs hN)
  exact ⟨d, s2, (callF_at h rfl).trans q, w⟩
end
end Bw

set_option linter.all false
set_option maxRecDepth 100000
set_option maxHeartbeats 1000000
/-! Bw: the inner turns of k13's law -/
namespace Bw
open PySem
def fLists (kk : Nat) : F := ⟨"_law_lists", ["matter"], ["matter", "bit"], [
  (.ret (.ife (.isi (.var 0) [.list, .tuple]) (.comp false (.call kk [(.var 1)]) [1] (.nm 1) (.sq (.var 0)) none) (.var 0)))], 61, 100000⟩
abbrev E12 (ns : List Int) (r : Nat) (x2 x3 x4 x5 x6 x7 x8 x9 xa xb : Option D) : En := [some (.scr ns), some (.ref r), x2, x3, x4, x5, x6, x7, x8, x9, xa, xb]
def i1 (kt : Nat) : S := (.set (.tup [(.nm 8), (.nm 9)]) (.tup [(.bin .sub (.call kt [(.var 1), (.cst (D.int (60)))]) (.cst (D.int (30)))), (.bin .sub (.call kt [(.var 1), (.cst (D.int (60)))]) (.cst (D.int (30))))]))
def i2 (kq : Nat) : S := (.set (.tup [(.nm 10), (.nm 11)]) (.tup [(.call kq [(.var 6), (.var 9)]), (.call kq [(.var 7), (.var 9)])]))
def i3 (kq : Nat) : S := (.ife (.or [(.cmp .ne (.cmp .ge (.call kq [(.var 4), (.var 8)]) (.var 9)) (.cmp .ge (.var 8) (.var 10))), (.cmp .ne (.cmp .le (.call kq [(.var 4), (.var 8)]) (.var 9)) (.cmp .le (.var 8) (.var 11)))]) [(.ret (.cst (D.bl false)))] [])
section
variable {gl : PySem.Str → Option D} {P : List F} {k kt kq n r M : Nat} {s s1 s2 : Sto} {cf : CF} {d : List Int} {ns : List Int} {a b x z : Int} {x2 x3 x4 x5 x6 x7 x8 x9 xa xb : Option D}
theorem lists0_ok (h : P[k]? = some (fLists k)) {i : Int} : callF gl P (n + 1) k [.int i] s = .ok (.int i) s := by
  have is : isAny (.int i) [.list, .tuple] = some false := rfl
  rw [callF_at h rfl]
  simp only [fLists, w_bind, w_bindx, w_to, w_tox, w_quiet, w_sq, w_sqr, w_sqx, w_lp, w_lpr, w_vw, w_bw, w_fin, w_finx, k_b, k_c2, k_q2, w_or, k_c, k_ht, k_hf, k_h2, k_h, k_at, k_af, k_a, k_ot, k_of, k_o, k_n, k_T2, k_T, k_it, k_if, k_g, k_s, k_x, k_l3, k_l2, k_l, k_e2, k_e, k_as, k_u3, k_u2, k_u, k_set2, k_set, k_ret, k_ift, k_iff, k_wt, k_wf, e_cst, e_var, e_bin, e_neg, e_cmp, e_chain, e_and, e_or, e_not, e_ife, e_call, e_bi, e_isi, e_tup, e_lst, e_ix, e_sl, es_nil, es_cons, e_T, eA_one, eA_cons, eO_one, eO_cons, tr_bl, tr_int, a_nm, a_tup, a_sub, as_nil, as_cons, x_nil, x_cons, x_set, x_ife, x_ret, x_rais, List.getElem?_cons_zero, List.getElem?_cons_succ, List.length_cons, List.length_nil, List.map_cons, List.map_nil, List.cons_append, List.nil_append, Nat.reduceSub, Nat.reduceAdd, List.replicate_succ, List.replicate_zero, List.set_cons_zero, List.set_cons_succ, Nat.zero_add, Nat.sub_self, b_add, b_sub, b_ge, b_gt, b_le, b_lt, b_eq, b_ne, b_mul, b_fdiv, b_mod, u_abs, u_inti, u_intb, u_gcd, Bool.not_true, Bool.not_false, is_iI, is_iB, is_iL, is_iT, is_iLT, is_iBS, is_bI, is_bB, is_bLT, is_bBS, is_tL, is_tT, is_tLT, is_lL, is_lT, is_lLT, n_i, n_b, b_eqb, b_neb, i_sq, j_tup, j_lst, j_scr, i_zip, j_zip, j_zipT, j_zipL, u_tupleL, u_tupleT, deep_int, deep_bl, List.take_length, u_all2, w_upi, w_upb, w_upt, w_upl, u_len2, u_list2, k_t2, k_t3, m_l1, m_l2, m_l3, m_l4, m_l5, x_tup0, x_tup1, okMul_1, b_eqt, decide_true, decide_false, Bool.true_and, Bool.false_and, is]
theorem lists_c (hl : d.length ≤ lim) (hc : ∀ (i : Int) (s : Sto), cf k [.int i] s = .ok (.int i) s) : evE cf gl 60 (.comp false (.call k [(.var 1)]) [1] (.nm 1) (.sq (.var 0)) none) [some (TI d), none] s = .ok (.lst (d.map D.int)) s := by
  have q := comp_val (cf := cf) (gl := gl) (el := .call k [(.var 1)]) (own := [1]) (t := .nm 1) (it := .sq (.var 0)) (n := 59) (e := [some (TI d), none]) (s := s) (xs := d.map D.int) (g := fun y => y)
    (by simp only [w_bind, w_bindx, w_to, w_tox, w_quiet, w_sq, w_sqr, w_sqx, w_lp, w_lpr, w_vw, w_bw, w_fin, w_finx, k_b, k_c2, k_q2, w_or, k_c, k_ht, k_hf, k_h2, k_h, k_at, k_af, k_a, k_ot, k_of, k_o, k_n, k_T2, k_T, k_it, k_if, k_g, k_s, k_x, k_l3, k_l2, k_l, k_e2, k_e, k_as, k_u3, k_u2, k_u, k_set2, k_set, k_ret, k_ift, k_iff, k_wt, k_wf, e_cst, e_var, e_bin, e_neg, e_cmp, e_chain, e_and, e_or, e_not, e_ife, e_call, e_bi, e_isi, e_tup, e_lst, e_ix, e_sl, es_nil, es_cons, e_T, eA_one, eA_cons, eO_one, eO_cons, tr_bl, tr_int, a_nm, a_tup, a_sub, as_nil, as_cons, x_nil, x_cons, x_set, x_ife, x_ret, x_rais, List.getElem?_cons_zero, List.getElem?_cons_succ, List.length_cons, List.length_nil, List.map_cons, List.map_nil, List.cons_append, List.nil_append, Nat.reduceSub, Nat.reduceAdd, List.replicate_succ, List.replicate_zero, List.set_cons_zero, List.set_cons_succ, Nat.zero_add, Nat.sub_self, b_add, b_sub, b_ge, b_gt, b_le, b_lt, b_eq, b_ne, b_mul, b_fdiv, b_mod, u_abs, u_inti, u_intb, u_gcd, Bool.not_true, Bool.not_false, is_iI, is_iB, is_iL, is_iT, is_iLT, is_iBS, is_bI, is_bB, is_bLT, is_bBS, is_tL, is_tT, is_tLT, is_lL, is_lT, is_lLT, n_i, n_b, b_eqb, b_neb, i_sq, j_tup, j_lst, j_scr, i_zip, j_zip, j_zipT, j_zipL, u_tupleL, u_tupleT, deep_int, deep_bl, List.take_length, u_all2, w_upi, w_upb, w_upt, w_upl, u_len2, u_list2, k_t2, k_t3, m_l1, m_l2, m_l3, m_l4, m_l5, x_tup0, x_tup1, okMul_1, b_eqt, decide_true, decide_false, Bool.true_and, Bool.false_and]) (by rw [List.length_map]; exact hl) (fun y hy s1 => by
      obtain ⟨i, rfl⟩ := ints_all y hy
      refine ⟨_, a_nm _ _ _ _ _, ?_, rfl⟩
      simp only [wipeE, w_bind, w_bindx, w_to, w_tox, w_quiet, w_sq, w_sqr, w_sqx, w_lp, w_lpr, w_vw, w_bw, w_fin, w_finx, k_b, k_c2, k_q2, w_or, k_c, k_ht, k_hf, k_h2, k_h, k_at, k_af, k_a, k_ot, k_of, k_o, k_n, k_T2, k_T, k_it, k_if, k_g, k_s, k_x, k_l3, k_l2, k_l, k_e2, k_e, k_as, k_u3, k_u2, k_u, k_set2, k_set, k_ret, k_ift, k_iff, k_wt, k_wf, e_cst, e_var, e_bin, e_neg, e_cmp, e_chain, e_and, e_or, e_not, e_ife, e_call, e_bi, e_isi, e_tup, e_lst, e_ix, e_sl, es_nil, es_cons, e_T, eA_one, eA_cons, eO_one, eO_cons, tr_bl, tr_int, a_nm, a_tup, a_sub, as_nil, as_cons, x_nil, x_cons, x_set, x_ife, x_ret, x_rais, List.getElem?_cons_zero, List.getElem?_cons_succ, List.length_cons, List.length_nil, List.map_cons, List.map_nil, List.cons_append, List.nil_append, Nat.reduceSub, Nat.reduceAdd, List.replicate_succ, List.replicate_zero, List.set_cons_zero, List.set_cons_succ, Nat.zero_add, Nat.sub_self, b_add, b_sub, b_ge, b_gt, b_le, b_lt, b_eq, b_ne, b_mul, b_fdiv, b_mod, u_abs, u_inti, u_intb, u_gcd, Bool.not_true, Bool.not_false, is_iI, is_iB, is_iL, is_iT, is_iLT, is_iBS, is_bI, is_bB, is_bLT, is_bBS, is_tL, is_tT, is_tLT, is_lL, is_lT, is_lLT, n_i, n_b, b_eqb, b_neb, i_sq, j_tup, j_lst, j_scr, i_zip, j_zip, j_zipT, j_zipL, u_tupleL, u_tupleT, deep_int, deep_bl, List.take_length, u_all2, w_upi, w_upb, w_upt, w_upl, u_len2, u_list2, k_t2, k_t3, m_l1, m_l2, m_l3, m_l4, m_l5, x_tup0, x_tup1, okMul_1, b_eqt, decide_true, decide_false, Bool.true_and, Bool.false_and, hc])
  rw [List.map_id'] at q
  exact q
theorem lists_b (hl : d.length ≤ lim) (hc : ∀ (i : Int) (s : Sto), cf k [.int i] s = .ok (.int i) s) : fin s.length (exs (exS (evE cf gl 61) 100000 61) (fLists k).body [some (TI d), none] s) = .ok (.lst (d.map D.int)) s := by
  have q := lists_c (gl := gl) (s := s) hl hc
  have dp : deep s.length (.lst (d.map D.int)) = true := deeps_ints s.length d
  have bk : back s.length (.lst (d.map D.int)) s = .ok (.lst (d.map D.int)) s := by
    rw [w_up _ dp, List.take_length]
  simp only [fLists, w_bind, w_bindx, w_to, w_tox, w_quiet, w_sq, w_sqr, w_sqx, w_lp, w_lpr, w_vw, w_bw, w_fin, w_finx, k_b, k_c2, k_q2, w_or, k_c, k_ht, k_hf, k_h2, k_h, k_at, k_af, k_a, k_ot, k_of, k_o, k_n, k_T2, k_T, k_it, k_if, k_g, k_s, k_x, k_l3, k_l2, k_l, k_e2, k_e, k_as, k_u3, k_u2, k_u, k_set2, k_set, k_ret, k_ift, k_iff, k_wt, k_wf, e_cst, e_var, e_bin, e_neg, e_cmp, e_chain, e_and, e_or, e_not, e_ife, e_call, e_bi, e_isi, e_tup, e_lst, e_ix, e_sl, es_nil, es_cons, e_T, eA_one, eA_cons, eO_one, eO_cons, tr_bl, tr_int, a_nm, a_tup, a_sub, as_nil, as_cons, x_nil, x_cons, x_set, x_ife, x_ret, x_rais, List.getElem?_cons_zero, List.getElem?_cons_succ, List.length_cons, List.length_nil, List.map_cons, List.map_nil, List.cons_append, List.nil_append, Nat.reduceSub, Nat.reduceAdd, List.replicate_succ, List.replicate_zero, List.set_cons_zero, List.set_cons_succ, Nat.zero_add, Nat.sub_self, b_add, b_sub, b_ge, b_gt, b_le, b_lt, b_eq, b_ne, b_mul, b_fdiv, b_mod, u_abs, u_inti, u_intb, u_gcd, Bool.not_true, Bool.not_false, is_iI, is_iB, is_iL, is_iT, is_iLT, is_iBS, is_bI, is_bB, is_bLT, is_bBS, is_tL, is_tT, is_tLT, is_lL, is_lT, is_lLT, n_i, n_b, b_eqb, b_neb, i_sq, j_tup, j_lst, j_scr, i_zip, j_zip, j_zipT, j_zipL, u_tupleL, u_tupleT, deep_int, deep_bl, List.take_length, u_all2, w_upi, w_upb, w_upt, w_upl, u_len2, u_list2, k_t2, k_t3, m_l1, m_l2, m_l3, m_l4, m_l5, x_tup0, x_tup1, okMul_1, b_eqt, decide_true, decide_false, Bool.true_and, Bool.false_and, q, bk]
theorem i1_ok (h1 : cf kt [.ref r, .int 60] s = .ok (.int a) s1) (h2 : cf kt [.ref r, .int 60] s1 = .ok (.int b) s2) : exS (evE cf gl 61) 100000 59 (i1 kt) (E12 ns r x2 x3 x4 x5 x6 x7 x8 x9 xa xb) s = .ok .next (E12 ns r x2 x3 x4 x5 x6 x7 (some (.int (a - 30))) (some (.int (b - 30))) xa xb) s2 := by
  simp only [i1, E12, w_bind, w_bindx, w_to, w_tox, w_quiet, w_sq, w_sqr, w_sqx, w_lp, w_lpr, w_vw, w_bw, w_fin, w_finx, k_b, k_c2, k_q2, w_or, k_c, k_ht, k_hf, k_h2, k_h, k_at, k_af, k_a, k_ot, k_of, k_o, k_n, k_T2, k_T, k_it, k_if, k_g, k_s, k_x, k_l3, k_l2, k_l, k_e2, k_e, k_as, k_u3, k_u2, k_u, k_set2, k_set, k_ret, k_ift, k_iff, k_wt, k_wf, e_cst, e_var, e_bin, e_neg, e_cmp, e_chain, e_and, e_or, e_not, e_ife, e_call, e_bi, e_isi, e_tup, e_lst, e_ix, e_sl, es_nil, es_cons, e_T, eA_one, eA_cons, eO_one, eO_cons, tr_bl, tr_int, a_nm, a_tup, a_sub, as_nil, as_cons, x_nil, x_cons, x_set, x_ife, x_ret, x_rais, List.getElem?_cons_zero, List.getElem?_cons_succ, List.length_cons, List.length_nil, List.map_cons, List.map_nil, List.cons_append, List.nil_append, Nat.reduceSub, Nat.reduceAdd, List.replicate_succ, List.replicate_zero, List.set_cons_zero, List.set_cons_succ, Nat.zero_add, Nat.sub_self, b_add, b_sub, b_ge, b_gt, b_le, b_lt, b_eq, b_ne, b_mul, b_fdiv, b_mod, u_abs, u_inti, u_intb, u_gcd, Bool.not_true, Bool.not_false, is_iI, is_iB, is_iL, is_iT, is_iLT, is_iBS, is_bI, is_bB, is_bLT, is_bBS, is_tL, is_tT, is_tLT, is_lL, is_lT, is_lLT, n_i, n_b, b_eqb, b_neb, i_sq, j_tup, j_lst, j_scr, i_zip, j_zip, j_zipT, j_zipL, u_tupleL, u_tupleT, deep_int, deep_bl, List.take_length, u_all2, w_upi, w_upb, w_upt, w_upl, u_len2, u_list2, k_t2, k_t3, m_l1, m_l2, m_l3, m_l4, m_l5, x_tup0, x_tup1, okMul_1, b_eqt, decide_true, decide_false, Bool.true_and, Bool.false_and, h1, h2]
theorem i2_ok {l1 l2 : List Int} (h1 : cf kq [TI l1, .int z] s = .ok (.int a) s) (h2 : cf kq [TI l2, .int z] s = .ok (.int b) s) : exS (evE cf gl 61) 100000 59 (i2 kq) (E12 ns r x2 x3 x4 x5 (some (TI l1)) (some (TI l2)) x8 (some (.int z)) xa xb) s = .ok .next (E12 ns r x2 x3 x4 x5 (some (TI l1)) (some (TI l2)) x8 (some (.int z)) (some (.int a)) (some (.int b))) s := by
  simp only [i2, E12, w_bind, w_bindx, w_to, w_tox, w_quiet, w_sq, w_sqr, w_sqx, w_lp, w_lpr, w_vw, w_bw, w_fin, w_finx, k_b, k_c2, k_q2, w_or, k_c, k_ht, k_hf, k_h2, k_h, k_at, k_af, k_a, k_ot, k_of, k_o, k_n, k_T2, k_T, k_it, k_if, k_g, k_s, k_x, k_l3, k_l2, k_l, k_e2, k_e, k_as, k_u3, k_u2, k_u, k_set2, k_set, k_ret, k_ift, k_iff, k_wt, k_wf, e_cst, e_var, e_bin, e_neg, e_cmp, e_chain, e_and, e_or, e_not, e_ife, e_call, e_bi, e_isi, e_tup, e_lst, e_ix, e_sl, es_nil, es_cons, e_T, eA_one, eA_cons, eO_one, eO_cons, tr_bl, tr_int, a_nm, a_tup, a_sub, as_nil, as_cons, x_nil, x_cons, x_set, x_ife, x_ret, x_rais, List.getElem?_cons_zero, List.getElem?_cons_succ, List.length_cons, List.length_nil, List.map_cons, List.map_nil, List.cons_append, List.nil_append, Nat.reduceSub, Nat.reduceAdd, List.replicate_succ, List.replicate_zero, List.set_cons_zero, List.set_cons_succ, Nat.zero_add, Nat.sub_self, b_add, b_sub, b_ge, b_gt, b_le, b_lt, b_eq, b_ne, b_mul, b_fdiv, b_mod, u_abs, u_inti, u_intb, u_gcd, Bool.not_true, Bool.not_false, is_iI, is_iB, is_iL, is_iT, is_iLT, is_iBS, is_bI, is_bB, is_bLT, is_bBS, is_tL, is_tT, is_tLT, is_lL, is_lT, is_lLT, n_i, n_b, b_eqb, b_neb, i_sq, j_tup, j_lst, j_scr, i_zip, j_zip, j_zipT, j_zipL, u_tupleL, u_tupleT, deep_int, deep_bl, List.take_length, u_all2, w_upi, w_upb, w_upt, w_upl, u_len2, u_list2, k_t2, k_t3, m_l1, m_l2, m_l3, m_l4, m_l5, x_tup0, x_tup1, okMul_1, b_eqt, decide_true, decide_false, Bool.true_and, Bool.false_and, h1, h2]
theorem i3_ok {L N1 N2 : Int} (h1 : cf kq [TI d, .int x] s = .ok (.int L) s) (e1 : decide (z ≤ L) = decide (N1 ≤ x)) (e2 : decide (L ≤ z) = decide (x ≤ N2)) : exS (evE cf gl 61) 100000 59 (i3 kq) (E12 ns r x2 x3 (some (TI d)) x5 x6 x7 (some (.int x)) (some (.int z)) (some (.int N1)) (some (.int N2))) s = .ok .next (E12 ns r x2 x3 (some (TI d)) x5 x6 x7 (some (.int x)) (some (.int z)) (some (.int N1)) (some (.int N2))) s := by
  simp only [i3, E12, w_bind, w_bindx, w_to, w_tox, w_quiet, w_sq, w_sqr, w_sqx, w_lp, w_lpr, w_vw, w_bw, w_fin, w_finx, k_b, k_c2, k_q2, w_or, k_c, k_ht, k_hf, k_h2, k_h, k_at, k_af, k_a, k_ot, k_of, k_o, k_n, k_T2, k_T, k_it, k_if, k_g, k_s, k_x, k_l3, k_l2, k_l, k_e2, k_e, k_as, k_u3, k_u2, k_u, k_set2, k_set, k_ret, k_ift, k_iff, k_wt, k_wf, e_cst, e_var, e_bin, e_neg, e_cmp, e_chain, e_and, e_or, e_not, e_ife, e_call, e_bi, e_isi, e_tup, e_lst, e_ix, e_sl, es_nil, es_cons, e_T, eA_one, eA_cons, eO_one, eO_cons, tr_bl, tr_int, a_nm, a_tup, a_sub, as_nil, as_cons, x_nil, x_cons, x_set, x_ife, x_ret, x_rais, List.getElem?_cons_zero, List.getElem?_cons_succ, List.length_cons, List.length_nil, List.map_cons, List.map_nil, List.cons_append, List.nil_append, Nat.reduceSub, Nat.reduceAdd, List.replicate_succ, List.replicate_zero, List.set_cons_zero, List.set_cons_succ, Nat.zero_add, Nat.sub_self, b_add, b_sub, b_ge, b_gt, b_le, b_lt, b_eq, b_ne, b_mul, b_fdiv, b_mod, u_abs, u_inti, u_intb, u_gcd, Bool.not_true, Bool.not_false, is_iI, is_iB, is_iL, is_iT, is_iLT, is_iBS, is_bI, is_bB, is_bLT, is_bBS, is_tL, is_tT, is_tLT, is_lL, is_lT, is_lLT, n_i, n_b, b_eqb, b_neb, i_sq, j_tup, j_lst, j_scr, i_zip, j_zip, j_zipT, j_zipL, u_tupleL, u_tupleT, deep_int, deep_bl, List.take_length, u_all2, w_upi, w_upb, w_upt, w_upl, u_len2, u_list2, k_t2, k_t3, m_l1, m_l2, m_l3, m_l4, m_l5, x_tup0, x_tup1, okMul_1, b_eqt, decide_true, decide_false, Bool.true_and, Bool.false_and, h1, e1, e2, bne_self_eq_false]
theorem inner (W : Wh d)
    (tk : ∀ (S : Sto) (m : Nat), Tin r m S → m < 1000000 → ∃ (k : Int) (S' : Sto), cf kt [.ref r, .int 60] S = .ok (.int k) S' ∧ 0 ≤ k ∧ k < 60 ∧ Tin r (m + 1) S' ∧ S'.length = S.length ∧ ∀ q, q ≠ r → S'[q]? = S[q]?)
    (h1 : ∀ z S, cf kq [TI d, .int z] S = .ok (.int (ledI d z)) S)
    (h2 : ∀ z S, cf kq [TI (tabI d.length (firstI d)), .int z] S = .ok (.int (firstI d z)) S)
    (h3 : ∀ z S, cf kq [TI (tabI d.length (lastI d)), .int z] S = .ok (.int (lastI d z)) S) {n0 : Nat} : ∀ (xs : List D) (t M : Nat) (S : Sto) (x5 x8 x9 xa xb : Option D), Tin r M S → M + 2 * xs.length < 1000000 →
    ∃ y5 y8 y9 ya yb S', exFor (evE cf gl 61) (exS (evE cf gl 61) 100000 59) (.nm 5) [i1 kt, i2 kq, i3 kq] none n0 t xs (E12 ns r x2 x3 (some (TI d)) x5 (some (TI (tabI d.length (firstI d)))) (some (TI (tabI d.length (lastI d)))) x8 x9 xa xb) S = .ok .next (E12 ns r x2 x3 (some (TI d)) y5 (some (TI (tabI d.length (firstI d)))) (some (TI (tabI d.length (lastI d)))) y8 y9 ya yb) S'
      ∧ Tin r (M + 2 * xs.length) S' ∧ S'.length = S.length ∧ ∀ q, q ≠ r → S'[q]? = S[q]?
  | [], t, M, S, x5, x8, x9, xa, xb, T, hM => ⟨x5, x8, x9, xa, xb, S, rfl, T, rfl, fun q _ => rfl⟩
  | y :: xs, t, M, S, x5, x8, x9, xa, xb, T, hM => by
    rw [List.length_cons] at hM ⊢
    obtain ⟨a, S1, t1, t2, t3, t4, t5, t6⟩ := tk S M T (by omega)
    obtain ⟨b, S2, u1, u2, u3, u4, u5, u6⟩ := tk S1 (M + 1) t4 (by omega)
    have c1 := i1_ok (gl := gl) (ns := ns) (x2 := x2) (x3 := x3) (x4 := some (TI d)) (x5 := some y) (x6 := some (TI (tabI d.length (firstI d)))) (x7 := some (TI (tabI d.length (lastI d)))) (x8 := x8) (x9 := x9) (xa := xa) (xb := xb) t1 u1
    have c2 := i2_ok (gl := gl) (ns := ns) (r := r) (x2 := x2) (x3 := x3) (x4 := some (TI d)) (x5 := some y) (x8 := some (.int (a - 30))) (xa := xa) (xb := xb) (h2 (b - 30) S2) (h3 (b - 30) S2)
    have c3 := i3_ok (gl := gl) (ns := ns) (r := r) (x2 := x2) (x3 := x3) (x5 := some y) (x6 := some (TI (tabI d.length (firstI d)))) (x7 := some (TI (tabI d.length (lastI d)))) (z := b - 30) (h1 (a - 30) S2) (first_iff W (a - 30) (b - 30)) (last_iff W (a - 30) (b - 30))
    have hb : exs (exS (evE cf gl 61) 100000 59) [i1 kt, i2 kq, i3 kq] (E12 ns r x2 x3 (some (TI d)) (some y) (some (TI (tabI d.length (firstI d)))) (some (TI (tabI d.length (lastI d)))) x8 x9 xa xb) S = .ok .next (E12 ns r x2 x3 (some (TI d)) (some y) (some (TI (tabI d.length (firstI d)))) (some (TI (tabI d.length (lastI d)))) (some (.int (a - 30))) (some (.int (b - 30))) (some (.int (firstI d (b - 30)))) (some (.int (lastI d (b - 30))))) S2 := by
      rw [x_cons, c1, w_sq, x_cons, c2, w_sq, x_cons, c3, w_sq, x_nil]
    obtain ⟨y5, y8, y9, ya, yb, S3, q1, q2, q3, q4⟩ := inner W tk h1 h2 h3 (n0 := n0) xs (t + 1) (M + 2) S2 (some y) (some (.int (a - 30))) (some (.int (b - 30))) (some (.int (firstI d (b - 30)))) (some (.int (lastI d (b - 30)))) u4 (by omega)
    refine ⟨y5, y8, y9, ya, yb, S3, ?_, by rw [show M + 2 * (xs.length + 1) = M + 2 + 2 * xs.length by omega]; exact q2, by omega, fun q hq => by rw [q4 q hq, u6 q hq, t6 q hq]⟩
    rw [for_step (e1 := E12 ns r x2 x3 (some (TI d)) (some y) (some (TI (tabI d.length (firstI d)))) (some (TI (tabI d.length (lastI d)))) x8 x9 xa xb) rfl hb, q1]
end
end Bw

set_option linter.all false
set_option maxRecDepth 100000
set_option maxHeartbeats 1000000
/-! Bw: a lap of k13's law -/
namespace Bw
open PySem
def o1 (kt : Nat) : S := (.set (.nm 3) (.bin .add (.cst (D.int (1))) (.call kt [(.var 1), (.cst (D.int (9)))])))
def o2 (kd : Nat) : S := (.set (.nm 4) (.call kd [(.var 1), (.var 3)]))
def o3 (kf kk kL : Nat) : S := (.set (.tup [(.nm 6), (.nm 7)]) (.tup [(.call kf [(.call kk [(.var 4)])]), (.call kL [(.var 4)])]))
def o4 (kS km k1 k2 k3 : Nat) : S := (.ife (.not (.call kS [(.lst false [(.var 6), (.var 7), (.call km [(.var 4)])]), (.lst false [(.call k1 [(.var 4)]), (.call k2 [(.var 4)]), (.call k3 [(.var 4)])])])) [(.ret (.cst (D.bl false)))] [])
def o5 (kt kq : Nat) : S := (.for_ (.nm 5) (.rg1 (.cst (D.int (4)))) [i1 kt, i2 kq, i3 kq])
section
variable {gl : PySem.Str → Option D} {P : List F} {kt kd kf kk kL kS km k1 k2 k3 kq n r M N : Nat} {s s1 s2 : Sto} {cf : CF} {d : List Int} {ns : List Int} {a b x z : Int} {x2 x3 x4 x5 x6 x7 x8 x9 xa xb : Option D} {A B C0 v : D}
theorem o1_ok (h1 : cf kt [.ref r, .int 9] s = .ok (.int a) s1) : exS (evE cf gl 61) 100000 60 (o1 kt) (E12 ns r x2 x3 x4 x5 x6 x7 x8 x9 xa xb) s = .ok .next (E12 ns r x2 (some (.int (1 + a))) x4 x5 x6 x7 x8 x9 xa xb) s1 := by
  simp only [o1, E12, w_bind, w_bindx, w_to, w_tox, w_quiet, w_sq, w_sqr, w_sqx, w_lp, w_lpr, w_vw, w_bw, w_fin, w_finx, k_b, k_c2, k_q2, w_or, k_c, k_ht, k_hf, k_h2, k_h, k_at, k_af, k_a, k_ot, k_of, k_o, k_n, k_T2, k_T, k_it, k_if, k_g, k_s, k_x, k_l3, k_l2, k_l, k_e2, k_e, k_as, k_u3, k_u2, k_u, k_set2, k_set, k_ret, k_ift, k_iff, k_wt, k_wf, e_cst, e_var, e_bin, e_neg, e_cmp, e_chain, e_and, e_or, e_not, e_ife, e_call, e_bi, e_isi, e_tup, e_lst, e_ix, e_sl, es_nil, es_cons, e_T, eA_one, eA_cons, eO_one, eO_cons, tr_bl, tr_int, a_nm, a_tup, a_sub, as_nil, as_cons, x_nil, x_cons, x_set, x_ife, x_ret, x_rais, List.getElem?_cons_zero, List.getElem?_cons_succ, List.length_cons, List.length_nil, List.map_cons, List.map_nil, List.cons_append, List.nil_append, Nat.reduceSub, Nat.reduceAdd, List.replicate_succ, List.replicate_zero, List.set_cons_zero, List.set_cons_succ, Nat.zero_add, Nat.sub_self, b_add, b_sub, b_ge, b_gt, b_le, b_lt, b_eq, b_ne, b_mul, b_fdiv, b_mod, u_abs, u_inti, u_intb, u_gcd, Bool.not_true, Bool.not_false, is_iI, is_iB, is_iL, is_iT, is_iLT, is_iBS, is_bI, is_bB, is_bLT, is_bBS, is_tL, is_tT, is_tLT, is_lL, is_lT, is_lLT, n_i, n_b, b_eqb, b_neb, i_sq, j_tup, j_lst, j_scr, i_zip, j_zip, j_zipT, j_zipL, u_tupleL, u_tupleT, deep_int, deep_bl, List.take_length, u_all2, w_upi, w_upb, w_upt, w_upl, u_len2, u_list2, k_t2, k_t3, m_l1, m_l2, m_l3, m_l4, m_l5, x_tup0, x_tup1, okMul_1, b_eqt, decide_true, decide_false, Bool.true_and, Bool.false_and, h1]
theorem o2_ok (h1 : cf kd [.ref r, .int z] s = .ok v s1) : exS (evE cf gl 61) 100000 60 (o2 kd) (E12 ns r x2 (some (.int z)) x4 x5 x6 x7 x8 x9 xa xb) s = .ok .next (E12 ns r x2 (some (.int z)) (some v) x5 x6 x7 x8 x9 xa xb) s1 := by
  simp only [o2, E12, w_bind, w_bindx, w_to, w_tox, w_quiet, w_sq, w_sqr, w_sqx, w_lp, w_lpr, w_vw, w_bw, w_fin, w_finx, k_b, k_c2, k_q2, w_or, k_c, k_ht, k_hf, k_h2, k_h, k_at, k_af, k_a, k_ot, k_of, k_o, k_n, k_T2, k_T, k_it, k_if, k_g, k_s, k_x, k_l3, k_l2, k_l, k_e2, k_e, k_as, k_u3, k_u2, k_u, k_set2, k_set, k_ret, k_ift, k_iff, k_wt, k_wf, e_cst, e_var, e_bin, e_neg, e_cmp, e_chain, e_and, e_or, e_not, e_ife, e_call, e_bi, e_isi, e_tup, e_lst, e_ix, e_sl, es_nil, es_cons, e_T, eA_one, eA_cons, eO_one, eO_cons, tr_bl, tr_int, a_nm, a_tup, a_sub, as_nil, as_cons, x_nil, x_cons, x_set, x_ife, x_ret, x_rais, List.getElem?_cons_zero, List.getElem?_cons_succ, List.length_cons, List.length_nil, List.map_cons, List.map_nil, List.cons_append, List.nil_append, Nat.reduceSub, Nat.reduceAdd, List.replicate_succ, List.replicate_zero, List.set_cons_zero, List.set_cons_succ, Nat.zero_add, Nat.sub_self, b_add, b_sub, b_ge, b_gt, b_le, b_lt, b_eq, b_ne, b_mul, b_fdiv, b_mod, u_abs, u_inti, u_intb, u_gcd, Bool.not_true, Bool.not_false, is_iI, is_iB, is_iL, is_iT, is_iLT, is_iBS, is_bI, is_bB, is_bLT, is_bBS, is_tL, is_tT, is_tLT, is_lL, is_lT, is_lLT, n_i, n_b, b_eqb, b_neb, i_sq, j_tup, j_lst, j_scr, i_zip, j_zip, j_zipT, j_zipL, u_tupleL, u_tupleT, deep_int, deep_bl, List.take_length, u_all2, w_upi, w_upb, w_upt, w_upl, u_len2, u_list2, k_t2, k_t3, m_l1, m_l2, m_l3, m_l4, m_l5, x_tup0, x_tup1, okMul_1, b_eqt, decide_true, decide_false, Bool.true_and, Bool.false_and, h1]
theorem o3_ok (h1 : cf kk [v] s = .ok C0 s) (h2 : cf kf [C0] s = .ok A s) (h3 : cf kL [v] s = .ok B s) : exS (evE cf gl 61) 100000 60 (o3 kf kk kL) (E12 ns r x2 x3 (some v) x5 x6 x7 x8 x9 xa xb) s = .ok .next (E12 ns r x2 x3 (some v) x5 (some A) (some B) x8 x9 xa xb) s := by
  simp only [o3, E12, w_bind, w_bindx, w_to, w_tox, w_quiet, w_sq, w_sqr, w_sqx, w_lp, w_lpr, w_vw, w_bw, w_fin, w_finx, k_b, k_c2, k_q2, w_or, k_c, k_ht, k_hf, k_h2, k_h, k_at, k_af, k_a, k_ot, k_of, k_o, k_n, k_T2, k_T, k_it, k_if, k_g, k_s, k_x, k_l3, k_l2, k_l, k_e2, k_e, k_as, k_u3, k_u2, k_u, k_set2, k_set, k_ret, k_ift, k_iff, k_wt, k_wf, e_cst, e_var, e_bin, e_neg, e_cmp, e_chain, e_and, e_or, e_not, e_ife, e_call, e_bi, e_isi, e_tup, e_lst, e_ix, e_sl, es_nil, es_cons, e_T, eA_one, eA_cons, eO_one, eO_cons, tr_bl, tr_int, a_nm, a_tup, a_sub, as_nil, as_cons, x_nil, x_cons, x_set, x_ife, x_ret, x_rais, List.getElem?_cons_zero, List.getElem?_cons_succ, List.length_cons, List.length_nil, List.map_cons, List.map_nil, List.cons_append, List.nil_append, Nat.reduceSub, Nat.reduceAdd, List.replicate_succ, List.replicate_zero, List.set_cons_zero, List.set_cons_succ, Nat.zero_add, Nat.sub_self, b_add, b_sub, b_ge, b_gt, b_le, b_lt, b_eq, b_ne, b_mul, b_fdiv, b_mod, u_abs, u_inti, u_intb, u_gcd, Bool.not_true, Bool.not_false, is_iI, is_iB, is_iL, is_iT, is_iLT, is_iBS, is_bI, is_bB, is_bLT, is_bBS, is_tL, is_tT, is_tLT, is_lL, is_lT, is_lLT, n_i, n_b, b_eqb, b_neb, i_sq, j_tup, j_lst, j_scr, i_zip, j_zip, j_zipT, j_zipL, u_tupleL, u_tupleT, deep_int, deep_bl, List.take_length, u_all2, w_upi, w_upb, w_upt, w_upl, u_len2, u_list2, k_t2, k_t3, m_l1, m_l2, m_l3, m_l4, m_l5, x_tup0, x_tup1, okMul_1, b_eqt, decide_true, decide_false, Bool.true_and, Bool.false_and, h1, h2, h3]
theorem o4_ok (h1 : cf km [v] s = .ok C0 s) (h2 : cf k1 [v] s = .ok A s) (h3 : cf k2 [v] s = .ok B s) (h4 : cf k3 [v] s = .ok C0 s) (h5 : cf kS [.lst [A, B, C0], .lst [A, B, C0]] s = .ok (.bl true) s) : exS (evE cf gl 61) 100000 60 (o4 kS km k1 k2 k3) (E12 ns r x2 x3 (some v) x5 (some A) (some B) x8 x9 xa xb) s = .ok .next (E12 ns r x2 x3 (some v) x5 (some A) (some B) x8 x9 xa xb) s := by
  simp only [o4, E12, w_bind, w_bindx, w_to, w_tox, w_quiet, w_sq, w_sqr, w_sqx, w_lp, w_lpr, w_vw, w_bw, w_fin, w_finx, k_b, k_c2, k_q2, w_or, k_c, k_ht, k_hf, k_h2, k_h, k_at, k_af, k_a, k_ot, k_of, k_o, k_n, k_T2, k_T, k_it, k_if, k_g, k_s, k_x, k_l3, k_l2, k_l, k_e2, k_e, k_as, k_u3, k_u2, k_u, k_set2, k_set, k_ret, k_ift, k_iff, k_wt, k_wf, e_cst, e_var, e_bin, e_neg, e_cmp, e_chain, e_and, e_or, e_not, e_ife, e_call, e_bi, e_isi, e_tup, e_lst, e_ix, e_sl, es_nil, es_cons, e_T, eA_one, eA_cons, eO_one, eO_cons, tr_bl, tr_int, a_nm, a_tup, a_sub, as_nil, as_cons, x_nil, x_cons, x_set, x_ife, x_ret, x_rais, List.getElem?_cons_zero, List.getElem?_cons_succ, List.length_cons, List.length_nil, List.map_cons, List.map_nil, List.cons_append, List.nil_append, Nat.reduceSub, Nat.reduceAdd, List.replicate_succ, List.replicate_zero, List.set_cons_zero, List.set_cons_succ, Nat.zero_add, Nat.sub_self, b_add, b_sub, b_ge, b_gt, b_le, b_lt, b_eq, b_ne, b_mul, b_fdiv, b_mod, u_abs, u_inti, u_intb, u_gcd, Bool.not_true, Bool.not_false, is_iI, is_iB, is_iL, is_iT, is_iLT, is_iBS, is_bI, is_bB, is_bLT, is_bBS, is_tL, is_tT, is_tLT, is_lL, is_lT, is_lLT, n_i, n_b, b_eqb, b_neb, i_sq, j_tup, j_lst, j_scr, i_zip, j_zip, j_zipT, j_zipL, u_tupleL, u_tupleT, deep_int, deep_bl, List.take_length, u_all2, w_upi, w_upb, w_upt, w_upl, u_len2, u_list2, k_t2, k_t3, m_l1, m_l2, m_l3, m_l4, m_l5, x_tup0, x_tup1, okMul_1, b_eqt, decide_true, decide_false, Bool.true_and, Bool.false_and, h1, h2, h3, h4, h5]
end
end Bw

set_option Elab.async false
set_option linter.all false
set_option maxRecDepth 100000
set_option maxHeartbeats 4000000
/-! Bw: k13: the law's data -/
namespace Lk13
open PySem PySem.Spec PyProof.Rows L2 Bw
def top (i : Nat) : Stmt := PySem.Challenge.pw_bothwheels_k13_whole_first_and_last_back.main.body.getD i (.Pass ⟨0, 0, 0, 0⟩)
def d0 : Df := ⟨"is_number", ["value"], ["value"], top 3, 60, 100000⟩
def d1 : Df := ⟨"are_numbers", ["values"], ["values", "value"], top 4, 60, 100000⟩
def d2 : Df := ⟨"with_tuples", ["value", "depth"], ["value", "depth", "own"], top 5, 60, 100000⟩
def d3 : Df := ⟨"is_wheel", ["thing"], ["thing", "behind", "number", "further"], top 7, 60, 100000⟩
def d4 : Df := ⟨"as_wheel", ["value"], ["value", "told"], top 8, 60, 100000⟩
def d5 : Df := ⟨"led_to", ["wheel", "number"], ["wheel", "number", "places"], top 9, 60, 100000⟩
def d6 : Df := ⟨"first_back", ["wheel"], ["wheel", "told", "places", "at", "found", "goal"], top 11, 60, 100000⟩
def d7 : Df := ⟨"last_back", ["wheel"], ["wheel", "back", "place"], top 12, 60, 100000⟩
def d8 : Df := ⟨"mirrored", ["wheel"], ["wheel", "told", "place"], top 13, 60, 100000⟩
def d9 : Df := ⟨"_law_box", ["script", "k"], ["script", "k", "bit_so"], top 15, 60, 100000⟩
def d10 : Df := ⟨"_law_take", ["tin", "below_so"], ["tin", "below_so", "once_so", "wide_so", "twice_so", "drawn"], top 16, 60, 100000⟩
def d11 : Df := ⟨"_law_cells", ["script", "most_so"], ["script", "most_so", "cells_so", "k", "bit_so", "at_so"], top 17, 60, 100000⟩
def d12 : Df := ⟨"_law_lists", ["matter"], ["matter", "bit"], top 18, 60, 100000⟩
def d13 : Df := ⟨"_law_same", ["got", "due"], ["got", "due", "mine", "its"], top 19, 60, 100000⟩
def d14 : Df := ⟨"_law_led", ["disk", "z"], ["disk", "z"], top 20, 60, 100000⟩
def d15 : Df := ⟨"_law_shift", ["ring_so", "m"], ["ring_so", "m", "k"], top 21, 60, 100000⟩
def d16 : Df := ⟨"_law_disk", ["tin", "ring_so"], ["tin", "ring_so", "wide_so", "start_so", "kind_so", "disk", "k", "j", "own", "lap"], top 22, 60, 100000⟩
def d17 : Df := ⟨"_law_first_led", ["disk", "z"], ["disk", "z", "ring_so", "k", "lap"], top 23, 60, 100000⟩
def d18 : Df := ⟨"_law_last_led", ["disk", "z"], ["disk", "z", "ring_so", "k", "lap"], top 24, 60, 100000⟩
def d19 : Df := ⟨"_law_first_back", ["disk"], ["disk", "k"], top 25, 60, 100000⟩
def d20 : Df := ⟨"_law_last_back", ["disk"], ["disk", "k"], top 26, 60, 100000⟩
def d21 : Df := ⟨"_law_glass", ["disk"], ["disk", "k"], top 27, 60, 100000⟩
def d22 : Df := ⟨"_law_reply", ["door_so", "own"], ["door_so", "own", "told", "error"], top 28, 60, 100000⟩
def d23 : Df := ⟨"_law_by_hand_right", [], ["disk", "got", "due"], top 29, 60, 100000⟩
def d24 : Df := ⟨"_law_refused_right", [], ["bads_so", "got", "own", "k"], top 30, 60, 100000⟩
def d25 : Df := ⟨"law", ["script"], ["script", "tin", "lap", "ring_so", "disk", "own", "first_so", "last_so", "x", "z", "near_so", "far_so"], top 31, 60, 100000⟩
def l : Lw := ⟨[d0, d1, d2, d3, d4, d5, d6, d7, d8, d9, d10, d11, d12, d13, d14, d15, d16, d17, d18, d19, d20, d21, d22, d23, d24, d25], ["ValueError", "abs", "all", "bool", "enumerate", "int", "isinstance", "len", "list", "max", "min", "range", "sorted", "str", "tuple", "zip"], [], ["Unfit"], [], [(32, 12), (47, 11), (59, 15), (59, 41), (83, 15)], [(8, 0, ["wheel"], [0]), (6, 0, ["wheel"], [0]), (7, 0, ["wheel"], [0])]⟩
theorem scs : l.ds.all (fun d => C8.scC d.ns d.ps (defScope d.st)) = true := by decide +kernel
theorem b0 : Bd d0 := fun _ _ _ _ _ _ us hl => match us, hl with | [_], _ => rfl
theorem b1 : Bd d1 := fun _ _ _ _ _ _ us hl => match us, hl with | [_], _ => rfl
theorem b2 : Bd d2 := fun _ _ _ _ _ _ us hl => match us, hl with | [_, _], _ => rfl
theorem b3 : Bd d3 := fun _ _ _ _ _ _ us hl => match us, hl with | [_], _ => rfl
theorem b4 : Bd d4 := fun _ _ _ _ _ _ us hl => match us, hl with | [_], _ => rfl
theorem b5 : Bd d5 := fun _ _ _ _ _ _ us hl => match us, hl with | [_, _], _ => rfl
theorem b6 : Bd d6 := fun _ _ _ _ _ _ us hl => match us, hl with | [_], _ => rfl
theorem b7 : Bd d7 := fun _ _ _ _ _ _ us hl => match us, hl with | [_], _ => rfl
theorem b8 : Bd d8 := fun _ _ _ _ _ _ us hl => match us, hl with | [_], _ => rfl
theorem b9 : Bd d9 := fun _ _ _ _ _ _ us hl => match us, hl with | [_, _], _ => rfl
theorem b10 : Bd d10 := fun _ _ _ _ _ _ us hl => match us, hl with | [_, _], _ => rfl
theorem b11 : Bd d11 := fun _ _ _ _ _ _ us hl => match us, hl with | [_, _], _ => rfl
theorem b12 : Bd d12 := fun _ _ _ _ _ _ us hl => match us, hl with | [_], _ => rfl
theorem b13 : Bd d13 := fun _ _ _ _ _ _ us hl => match us, hl with | [_, _], _ => rfl
theorem b14 : Bd d14 := fun _ _ _ _ _ _ us hl => match us, hl with | [_, _], _ => rfl
theorem b15 : Bd d15 := fun _ _ _ _ _ _ us hl => match us, hl with | [_, _], _ => rfl
theorem b16 : Bd d16 := fun _ _ _ _ _ _ us hl => match us, hl with | [_, _], _ => rfl
theorem b17 : Bd d17 := fun _ _ _ _ _ _ us hl => match us, hl with | [_, _], _ => rfl
theorem b18 : Bd d18 := fun _ _ _ _ _ _ us hl => match us, hl with | [_, _], _ => rfl
theorem b19 : Bd d19 := fun _ _ _ _ _ _ us hl => match us, hl with | [_], _ => rfl
theorem b20 : Bd d20 := fun _ _ _ _ _ _ us hl => match us, hl with | [_], _ => rfl
theorem b21 : Bd d21 := fun _ _ _ _ _ _ us hl => match us, hl with | [_], _ => rfl
theorem b22 : Bd d22 := fun _ _ _ _ _ _ us hl => match us, hl with | [_, _], _ => rfl
theorem b23 : Bd d23 := fun _ _ _ _ _ _ us hl => match us, hl with | [], _ => rfl
theorem b24 : Bd d24 := fun _ _ _ _ _ _ us hl => match us, hl with | [], _ => rfl
theorem b25 : Bd d25 := fun _ _ _ _ _ _ us hl => match us, hl with | [_], _ => rfl
theorem bds : AllBd l.ds := ⟨b0, b1, b2, b3, b4, b5, b6, b7, b8, b9, b10, b11, b12, b13, b14, b15, b16, b17, b18, b19, b20, b21, b22, b23, b24, b25, trivial⟩
theorem kw0 : KwB l.ds (8, 0, ["wheel"], [0]) := fun d hd => by
  have e : some d8 = some d := hd
  cases e
  exact ⟨by decide, fun _ _ _ _ _ _ us ws h1 h2 => match us, ws, h1, h2 with | [], [_], _, _ => rfl⟩
theorem kw1 : KwB l.ds (6, 0, ["wheel"], [0]) := fun d hd => by
  have e : some d6 = some d := hd
  cases e
  exact ⟨by decide, fun _ _ _ _ _ _ us ws h1 h2 => match us, ws, h1, h2 with | [], [_], _, _ => rfl⟩
theorem kw2 : KwB l.ds (7, 0, ["wheel"], [0]) := fun d hd => by
  have e : some d7 = some d := hd
  cases e
  exact ⟨by decide, fun _ _ _ _ _ _ us ws h1 h2 => match us, ws, h1, h2 with | [], [_], _, _ => rfl⟩
theorem kws : AllKb l.ds l.kwp := ⟨kw0, kw1, kw2, trivial⟩
end Lk13

set_option Elab.async false
set_option linter.all false
set_option maxRecDepth 100000
set_option maxHeartbeats 0
/-! Bw: k13: the text as it is compiled -/
namespace Lk13
open Bw
def f0 : F := ⟨"is_number", ["value"], ["value"], [
  (.ret (.and [(.isi (.var 0) [.int]), (.not (.isi (.var 0) [.bool]))]))], 61, 100000⟩
def f1 : F := ⟨"are_numbers", ["values"], ["values", "value"], [
  (.ret (.bi .all [(.comp false (.call 0 [(.var 1)]) [1] (.nm 1) (.sq (.var 0)) none)]))], 61, 100000⟩
def f2 : F := ⟨"with_tuples", ["value", "depth"], ["value", "depth", "own"], [
  (.ife (.or [(.cmp .eq (.var 1) (.cst (D.int (0)))), (.not (.isi (.var 0) [.list, .tuple]))]) [(.ret (.var 0))] []),
  (.ret (.bi .tuple [(.comp false (.call 2 [(.var 2), (.bin .sub (.var 1) (.cst (D.int (1))))]) [2] (.nm 2) (.sq (.var 0)) none)]))], 61, 100000⟩
def f3 : F := ⟨"is_wheel", ["thing"], ["thing", "behind", "number", "further"], [
  (.ife (.or [(.not (.isi (.var 0) [.tuple])), (.cmp .eq (.var 0) (.tup [])), (.not (.call 1 [(.var 0)]))]) [(.ret (.cst (D.bl false)))] []),
  (.set (.nm 1) (.bin .add (.sl (.var 0) (some (.cst (D.int (1)))) none) (.tup [(.bin .add (.ix (.var 0) (.cst (D.int (0)))) (.bi .len [(.var 0)]))]))),
  (.ret (.bi .all [(.comp false (.cmp .le (.var 2) (.var 3)) [2, 3] (.tup [(.nm 2), (.nm 3)]) (.zip (.var 0) (.var 1)) none)]))], 61, 100000⟩
def f4 : F := ⟨"as_wheel", ["value"], ["value", "told"], [
  (.set (.nm 1) (.call 2 [(.var 0), (.cst (D.int (1)))])),
  (.ife (.not (.call 3 [(.var 1)])) [(.rais "Unfit")] []),
  (.ret (.var 1))], 61, 100000⟩
def f5 : F := ⟨"led_to", ["wheel", "number"], ["wheel", "number", "places"], [
  (.set (.nm 2) (.bi .len [(.var 0)])),
  (.ret (.bin .add (.ix (.var 0) (.bin .mod (.var 1) (.var 2))) (.bin .mul (.bin .fdiv (.var 1) (.var 2)) (.var 2))))], 61, 100000⟩
def f6 : F := ⟨"first_back", ["wheel"], ["wheel", "told", "places", "at", "found", "goal"], [
  (.set (.nm 1) (.call 4 [(.var 0)])),
  (.set (.nm 2) (.bi .len [(.var 1)])),
  (.set (.nm 3) (.bin .mul (.bin .sub (.neg (.bin .fdiv (.ix (.var 1) (.cst (D.int (0)))) (.var 2))) (.cst (D.int (1)))) (.var 2))),
  (.set (.nm 4) (.lst true [])),
  (.for_ (.nm 5) (.rg1 (.var 2)) [(.whl (.cmp .lt (.call 5 [(.var 1), (.var 3)]) (.var 5)) [(.aug 3 .add (.cst (D.int (1))))]), (.app (.var 4) (.var 3))]),
  (.ret (.bi .tuple [(.var 4)]))], 61, 100000⟩
def f7 : F := ⟨"last_back", ["wheel"], ["wheel", "back", "place"], [
  (.set (.nm 1) (.call 6 [(.var 0)])),
  (.ret (.bi .tuple [(.comp false (.bin .sub (.call 5 [(.var 1), (.bin .add (.var 2) (.cst (D.int (1))))]) (.cst (D.int (1)))) [2] (.nm 2) (.rg1 (.bi .len [(.var 1)])) none)]))], 61, 100000⟩
def f8 : F := ⟨"mirrored", ["wheel"], ["wheel", "told", "place"], [
  (.set (.nm 1) (.call 4 [(.var 0)])),
  (.ret (.bi .tuple [(.comp false (.neg (.call 5 [(.var 1), (.neg (.var 2))])) [2] (.nm 2) (.rg1 (.bi .len [(.var 1)])) none)]))], 61, 100000⟩
def f9 : F := ⟨"_law_box", ["script", "k"], ["script", "k", "bit_so"], [
  (.set (.nm 2) (.ife (.cmp .lt (.var 1) (.bi .len [(.var 0)])) (.ix (.var 0) (.var 1)) (.cst (D.int (0))))),
  (.ret (.lst true [(.bin .mul (.bi .abs [(.var 2)]) (.bi .int [(.cmp .ge (.bi .abs [(.var 2)]) (.bin .pow (.cst (D.int (10))) (.cst (D.int (18)))))])), (.bin .add (.bin .add (.bin .mod (.bi .int [(.var 2)]) (.cst (D.int (2305843009213693951)))) (.bin .mul (.cst (D.int (39373))) (.var 1))) (.cst (D.int (3190013)))), (.cst (D.int (0)))]))], 61, 100000⟩
def f10 : F := ⟨"_law_take", ["tin", "below_so"], ["tin", "below_so", "once_so", "wide_so", "twice_so", "drawn"], [
  (.ife (.cmp .gt (.ix (.var 0) (.cst (D.int (0)))) (.cst (D.int (0)))) [(.set (.nm 5) (.bin .mod (.bi .int [(.ix (.var 0) (.cst (D.int (0))))]) (.var 1))), (.set (.sub (.var 0) (.cst (D.int (0)))) (.bin .fdiv (.ix (.var 0) (.cst (D.int (0)))) (.var 1))), (.ret (.var 5))] []),
  (.set (.sub (.var 0) (.cst (D.int (2)))) (.bin .add (.ix (.var 0) (.cst (D.int (2)))) (.cst (D.int (1))))),
  (.set (.nm 2) (.bin .mod (.bi .int [(.bin .mul (.bin .add (.ix (.var 0) (.cst (D.int (1)))) (.bin .mul (.cst (D.int (48271))) (.ix (.var 0) (.cst (D.int (2)))))) (.bin .add (.cst (D.int (39373))) (.ix (.var 0) (.cst (D.int (2))))))]) (.cst (D.int (2147483647))))),
  (.set (.nm 3) (.bin .add (.bin .mod (.bi .int [(.var 2)]) (.cst (D.int (40009)))) (.cst (D.int (7))))),
  (.set (.nm 4) (.bin .mod (.bi .int [(.bin .mul (.bin .add (.bin .add (.var 2) (.ix (.var 0) (.cst (D.int (2))))) (.bin .fdiv (.ix (.var 0) (.cst (D.int (1)))) (.cst (D.int (1000003))))) (.var 3))]) (.cst (D.int (2147483629))))),
  (.ret (.bin .mod (.bi .int [(.bin .fdiv (.bin .mod (.bi .int [(.bin .add (.bin .mul (.var 4) (.cst (D.int (48271)))) (.var 2))]) (.cst (D.int (2147483587)))) (.cst (D.int (64))))]) (.var 1)))], 61, 100000⟩
def f11 : F := ⟨"_law_cells", ["script", "most_so"], ["script", "most_so", "cells_so", "k", "bit_so", "at_so"], [
  (.set (.nm 2) (.or [(.bi .listR [(.sl (.var 0) none (some (.var 1)))]), (.lst true [(.cst (D.int (0)))])])),
  (.for_ (.tup [(.nm 3), (.nm 4)]) (.enu (.sl (.var 0) (some (.var 1)) (some (.cst (D.int (63)))))) [(.set (.nm 5) (.bin .mod (.bi .int [(.var 3)]) (.var 1))), (.set (.sub (.var 2) (.var 5)) (.bin .add (.ix (.var 2) (.var 5)) (.bin .mul (.var 4) (.bin .add (.var 3) (.cst (D.int (2)))))))]),
  (.ret (.var 2))], 61, 100000⟩
def f12 : F := ⟨"_law_lists", ["matter"], ["matter", "bit"], [
  (.ret (.ife (.isi (.var 0) [.list, .tuple]) (.comp false (.call 12 [(.var 1)]) [1] (.nm 1) (.sq (.var 0)) none) (.var 0)))], 61, 100000⟩
def f13 : F := ⟨"_law_same", ["got", "due"], ["got", "due", "mine", "its"], [
  (.ife (.isi (.var 1) [.list, .tuple]) [(.ife (.or [(.cmp .ne (.isi (.var 0) [.list]) (.isi (.var 1) [.list])), (.cmp .ne (.isi (.var 0) [.tuple]) (.isi (.var 1) [.tuple]))]) [(.ret (.cst (D.bl false)))] []), (.ret (.and [(.cmp .eq (.bi .len [(.var 0)]) (.bi .len [(.var 1)])), (.bi .all [(.comp false (.call 13 [(.var 2), (.var 3)]) [2, 3] (.tup [(.nm 2), (.nm 3)]) (.zip (.var 0) (.var 1)) none)])]))] []),
  (.ife (.or [(.cmp .isn (.var 1) (.cst D.non)), (.isi (.var 1) [.bool, .str])]) [(.ret (.and [(.cmp .eq (.var 0) (.var 1)), (.cmp .eq (.isi (.var 0) [.bool]) (.isi (.var 1) [.bool])), (.cmp .eq (.cmp .isn (.var 0) (.cst D.non)) (.cmp .isn (.var 1) (.cst D.non)))]))] []),
  (.ret (.and [(.isi (.var 0) [.int]), (.not (.isi (.var 0) [.bool])), (.cmp .eq (.var 0) (.var 1))]))], 61, 100000⟩
def f14 : F := ⟨"_law_led", ["disk", "z"], ["disk", "z"], [
  (.ret (.bin .add (.ix (.var 0) (.bin .mod (.bi .int [(.var 1)]) (.bi .len [(.var 0)]))) (.bin .mul (.bin .fdiv (.var 1) (.bi .len [(.var 0)])) (.bi .len [(.var 0)]))))], 61, 100000⟩
def f15 : F := ⟨"_law_shift", ["ring_so", "m"], ["ring_so", "m", "k"], [
  (.ret (.bi .tuple [(.comp false (.bin .add (.var 2) (.var 1)) [2] (.nm 2) (.rg1 (.var 0)) none)]))], 61, 100000⟩
def f16 : F := ⟨"_law_disk", ["tin", "ring_so"], ["tin", "ring_so", "wide_so", "start_so", "kind_so", "disk", "k", "j", "own", "lap"], [
  (.set (.tup [(.nm 3), (.nm 4)]) (.tup [(.bin .sub (.call 10 [(.var 0), (.bin .mul (.cst (D.int (3))) (.var 1))]) (.var 1)), (.call 10 [(.var 0), (.cst (D.int (5)))])])),
  (.ife (.cmp .eq (.var 4) (.cst (D.int (0)))) [(.ret (.call 15 [(.var 1), (.var 3)]))] []),
  (.ife (.cmp .eq (.var 4) (.cst (D.int (1)))) [(.set (.nm 5) (.bi .listR [(.call 15 [(.var 1), (.var 3)])])), (.set (.nm 6) (.call 10 [(.var 0), (.var 1)])), (.set (.sub (.var 5) (.var 6)) (.bin .add (.ix (.var 5) (.var 6)) (.cst (D.int (1))))), (.for_ (.nm 7) (.rg2 (.bin .add (.var 6) (.cst (D.int (1)))) (.var 1)) [(.set (.sub (.var 5) (.var 7)) (.bi .max [(.ix (.var 5) (.var 7)), (.ix (.var 5) (.bin .sub (.var 7) (.cst (D.int (1)))))]))]), (.ret (.bi .tuple [(.comp false (.bi .min [(.var 8), (.bin .add (.ix (.var 5) (.cst (D.int (0)))) (.var 1))]) [8] (.nm 8) (.sq (.var 5)) none)]))] []),
  (.set (.nm 2) (.ife (.cmp .gt (.var 4) (.cst (D.int (2)))) (.bin .add (.var 1) (.cst (D.int (1)))) (.bin .add (.cst (D.int (1))) (.call 10 [(.var 0), (.var 1)])))),
  (.ret (.bi .tuple [(.bi .sorted [(.comp false (.bin .add (.var 3) (.call 10 [(.var 0), (.var 2)])) [9] (.nm 9) (.rg1 (.var 1)) none)])]))], 61, 100000⟩
def f17 : F := ⟨"_law_first_led", ["disk", "z"], ["disk", "z", "ring_so", "k", "lap"], [
  (.set (.nm 2) (.bi .len [(.var 0)])),
  (.set (.nm 3) (.bin .mul (.bin .sub (.bin .fdiv (.bin .sub (.var 1) (.ix (.var 0) (.cst (D.int (0))))) (.var 2)) (.cst (D.int (2)))) (.var 2))),
  (.for_ (.nm 4) (.rg1 (.bin .add (.bin .mul (.cst (D.int (5))) (.var 2)) (.cst (D.int (5))))) [(.ife (.cmp .ge (.call 14 [(.var 0), (.var 3)]) (.var 1)) [(.ret (.var 3))] []), (.set (.nm 3) (.bin .add (.var 3) (.cst (D.int (1)))))]),
  (.ret (.cst D.non))], 61, 100000⟩
def f18 : F := ⟨"_law_last_led", ["disk", "z"], ["disk", "z", "ring_so", "k", "lap"], [
  (.set (.nm 2) (.bi .len [(.var 0)])),
  (.set (.nm 3) (.bin .mul (.bin .add (.bin .fdiv (.bin .sub (.var 1) (.ix (.var 0) (.cst (D.int (0))))) (.var 2)) (.cst (D.int (3)))) (.var 2))),
  (.for_ (.nm 4) (.rg1 (.bin .add (.bin .mul (.cst (D.int (5))) (.var 2)) (.cst (D.int (5))))) [(.ife (.cmp .le (.call 14 [(.var 0), (.var 3)]) (.var 1)) [(.ret (.var 3))] []), (.set (.nm 3) (.bin .sub (.var 3) (.cst (D.int (1)))))]),
  (.ret (.cst D.non))], 61, 100000⟩
def f19 : F := ⟨"_law_first_back", ["disk"], ["disk", "k"], [
  (.ret (.bi .tuple [(.comp false (.call 17 [(.var 0), (.var 1)]) [1] (.nm 1) (.rg1 (.bi .len [(.var 0)])) none)]))], 61, 100000⟩
def f20 : F := ⟨"_law_last_back", ["disk"], ["disk", "k"], [
  (.ret (.bi .tuple [(.comp false (.call 18 [(.var 0), (.var 1)]) [1] (.nm 1) (.rg1 (.bi .len [(.var 0)])) none)]))], 61, 100000⟩
def f21 : F := ⟨"_law_glass", ["disk"], ["disk", "k"], [
  (.ret (.bi .tuple [(.comp false (.neg (.call 14 [(.var 0), (.neg (.var 1))])) [1] (.nm 1) (.rg1 (.bi .len [(.var 0)])) none)]))], 61, 100000⟩
def f22 : F := ⟨"_law_reply", ["door_so", "own"], ["door_so", "own", "told", "error"], [
  (.set (.nm 2) (.cst (D.str "none"))),
  (.tryR [(.set (.nm 2) (.callX (.ix (.lst false [(.cst (D.fn 6)), (.cst (D.fn 7)), (.cst (D.fn 8))]) (.var 0)) [(.var 1)]))] [("Unfit", 3, (some 2), (.lst [(some (D.str "unfit")), (some (D.bl true))]))] ["Unfit"]),
  (.ret (.var 2))], 61, 100000⟩
def f23 : F := ⟨"_law_by_hand_right", [], ["disk", "got", "due"], [
  (.set (.nm 0) (.tup [(.cst (D.int (1))), (.cst (D.int (1))), (.cst (D.int (4))), (.cst (D.int (4)))])),
  (.set (.nm 1) (.lst false [(.call 6 [(.var 0)]), (.call 7 [(.var 0)]), (.call 8 [(.var 0)]), (.call 6 [(.tup [(.cst (D.int (2))), (.cst (D.int (3))), (.cst (D.int (4)))])]), (.call 7 [(.tup [(.cst (D.int (2))), (.cst (D.int (3))), (.cst (D.int (4)))])]), (.callK 8 [0] [(.lst false [(.cst (D.int (2))), (.cst (D.int (3))), (.cst (D.int (4)))])])])),
  (.set (.nm 2) (.lst false [(.tup [(.neg (.cst (D.int (2)))), (.cst (D.int (0))), (.cst (D.int (2))), (.cst (D.int (2)))]), (.tup [(.neg (.cst (D.int (1)))), (.cst (D.int (1))), (.cst (D.int (1))), (.cst (D.int (1)))]), (.tup [(.neg (.cst (D.int (1)))), (.cst (D.int (0))), (.cst (D.int (0))), (.cst (D.int (3)))]), (.tup [(.neg (.cst (D.int (2)))), (.neg (.cst (D.int (1)))), (.cst (D.int (0)))]), (.tup [(.neg (.cst (D.int (2)))), (.neg (.cst (D.int (1)))), (.cst (D.int (0)))]), (.tup [(.neg (.cst (D.int (2)))), (.neg (.cst (D.int (1)))), (.cst (D.int (0)))])])),
  (.set (.nm 1) (.bin .add (.var 1) (.lst false [(.callK 6 [0] [(.lst false [(.cst (D.int (0))), (.cst (D.int (2))), (.cst (D.int (2))), (.cst (D.int (3)))])]), (.callK 7 [0] [(.tup [(.cst (D.int (0))), (.cst (D.int (2))), (.cst (D.int (2))), (.cst (D.int (3)))])]), (.call 6 [(.tup [(.cst (D.int (5)))])]), (.call 7 [(.tup [(.neg (.cst (D.int (7))))])]), (.call 6 [(.tup [(.cst (D.int (0))), (.cst (D.int (0))), (.cst (D.int (0)))])]), (.call 7 [(.tup [(.cst (D.int (0))), (.cst (D.int (0))), (.cst (D.int (0)))])])]))),
  (.ret (.call 13 [(.var 1), (.bin .add (.var 2) (.lst false [(.tup [(.cst (D.int (0))), (.cst (D.int (1))), (.cst (D.int (1))), (.cst (D.int (3)))]), (.tup [(.cst (D.int (0))), (.cst (D.int (0))), (.cst (D.int (2))), (.cst (D.int (3)))]), (.tup [(.neg (.cst (D.int (5))))]), (.tup [(.cst (D.int (7)))]), (.tup [(.cst (D.int (0))), (.cst (D.int (3))), (.cst (D.int (3)))]), (.tup [(.cst (D.int (2))), (.cst (D.int (2))), (.cst (D.int (2)))])]))]))], 61, 100000⟩
def f24 : F := ⟨"_law_refused_right", [], ["bads_so", "got", "own", "k"], [
  (.set (.nm 0) (.lst false [(.tup []), (.tup [(.cst (D.int (1))), (.cst (D.int (0)))]), (.tup [(.cst (D.int (0))), (.cst (D.int (3)))]), (.tup [(.cst (D.int (0))), (.cst (D.int (1))), (.cst (D.int (4)))]), (.cst D.non), (.cst (D.int (5))), (.cst (D.str "ab")), (.tup [(.cst (D.int (0))), (.cst (D.bl true))]), (.tup [(.cst (D.int (0))), (.cst D.non)]), (.tup [(.cst (D.int (0))), (.tup [(.cst (D.int (1)))])]), (.tup [(.cst (D.int (0))), (.cst (D.str "1"))])])),
  (.set (.nm 1) (.lst false [])),
  (.for_ (.nm 2) (.sq (.var 0)) [(.set (.nm 1) (.bin .add (.var 1) (.comp false (.call 22 [(.var 3), (.var 2)]) [3] (.nm 3) (.sq (.tup [(.cst (D.int (0))), (.cst (D.int (1))), (.cst (D.int (2)))])) none)))]),
  (.ret (.call 13 [(.var 1), (.bin .mul (.lst false [(.lst false [(.cst (D.str "unfit")), (.cst (D.bl true))])]) (.bi .len [(.var 1)]))]))], 61, 100000⟩
def f25 : F := ⟨"law", ["script"], ["script", "tin", "lap", "ring_so", "disk", "own", "first_so", "last_so", "x", "z", "near_so", "far_so"], [
  (.ife (.not (.call 23 [])) [(.ret (.cst (D.bl false)))] []),
  (.set (.nm 1) (.call 9 [(.call 11 [(.var 0), (.cst (D.int (1)))]), (.cst (D.int (0)))])),
  (.for_ (.nm 2) (.rg1 (.cst (D.int (3)))) [(.set (.nm 3) (.bin .add (.cst (D.int (1))) (.call 10 [(.var 1), (.cst (D.int (9)))]))), (.set (.nm 4) (.call 16 [(.var 1), (.var 3)])), (.set (.tup [(.nm 6), (.nm 7)]) (.tup [(.call 6 [(.call 12 [(.var 4)])]), (.call 7 [(.var 4)])])), (.ife (.not (.call 13 [(.lst false [(.var 6), (.var 7), (.call 8 [(.var 4)])]), (.lst false [(.call 19 [(.var 4)]), (.call 20 [(.var 4)]), (.call 21 [(.var 4)])])])) [(.ret (.cst (D.bl false)))] []), (.for_ (.nm 5) (.rg1 (.cst (D.int (4)))) [(.set (.tup [(.nm 8), (.nm 9)]) (.tup [(.bin .sub (.call 10 [(.var 1), (.cst (D.int (60)))]) (.cst (D.int (30)))), (.bin .sub (.call 10 [(.var 1), (.cst (D.int (60)))]) (.cst (D.int (30))))])), (.set (.tup [(.nm 10), (.nm 11)]) (.tup [(.call 14 [(.var 6), (.var 9)]), (.call 14 [(.var 7), (.var 9)])])), (.ife (.or [(.cmp .ne (.cmp .ge (.call 14 [(.var 4), (.var 8)]) (.var 9)) (.cmp .ge (.var 8) (.var 10))), (.cmp .ne (.cmp .le (.call 14 [(.var 4), (.var 8)]) (.var 9)) (.cmp .le (.var 8) (.var 11)))]) [(.ret (.cst (D.bl false)))] [])])]),
  (.ret (.call 24 []))], 61, 100000⟩
def P : List F := [f0, f1, f2, f3, f4, f5, f6, f7, f8, f9, f10, f11, f12, f13, f14, f15, f16, f17, f18, f19, f20, f21, f22, f23, f24, f25]
theorem P_eq : l.P = P := by kernel_rfl
end Lk13

set_option Elab.async false
set_option linter.all false
set_option maxRecDepth 100000
set_option maxHeartbeats 0
namespace Lk13
open PySem Bw
def v23_0 : En := List.replicate f23.ns.length none
def v23_1 : En := [some ((D.tup [(D.int (1)), (D.int (1)), (D.int (4)), (D.int (4))])), none, none]
def v23_2 : En := [some ((D.tup [(D.int (1)), (D.int (1)), (D.int (4)), (D.int (4))])), some ((D.lst [(D.tup [(D.int (-2)), (D.int (0)), (D.int (2)), (D.int (2))]), (D.tup [(D.int (-1)), (D.int (1)), (D.int (1)), (D.int (1))]), (D.tup [(D.int (-1)), (D.int (0)), (D.int (0)), (D.int (3))]), (D.tup [(D.int (-2)), (D.int (-1)), (D.int (0))]), (D.tup [(D.int (-2)), (D.int (-1)), (D.int (0))]), (D.tup [(D.int (-2)), (D.int (-1)), (D.int (0))])])), none]
def v23_3 : En := [some ((D.tup [(D.int (1)), (D.int (1)), (D.int (4)), (D.int (4))])), some ((D.lst [(D.tup [(D.int (-2)), (D.int (0)), (D.int (2)), (D.int (2))]), (D.tup [(D.int (-1)), (D.int (1)), (D.int (1)), (D.int (1))]), (D.tup [(D.int (-1)), (D.int (0)), (D.int (0)), (D.int (3))]), (D.tup [(D.int (-2)), (D.int (-1)), (D.int (0))]), (D.tup [(D.int (-2)), (D.int (-1)), (D.int (0))]), (D.tup [(D.int (-2)), (D.int (-1)), (D.int (0))])])), some ((D.lst [(D.tup [(D.int (-2)), (D.int (0)), (D.int (2)), (D.int (2))]), (D.tup [(D.int (-1)), (D.int (1)), (D.int (1)), (D.int (1))]), (D.tup [(D.int (-1)), (D.int (0)), (D.int (0)), (D.int (3))]), (D.tup [(D.int (-2)), (D.int (-1)), (D.int (0))]), (D.tup [(D.int (-2)), (D.int (-1)), (D.int (0))]), (D.tup [(D.int (-2)), (D.int (-1)), (D.int (0))])]))]
def v23_4 : En := [some ((D.tup [(D.int (1)), (D.int (1)), (D.int (4)), (D.int (4))])), some ((D.lst [(D.tup [(D.int (-2)), (D.int (0)), (D.int (2)), (D.int (2))]), (D.tup [(D.int (-1)), (D.int (1)), (D.int (1)), (D.int (1))]), (D.tup [(D.int (-1)), (D.int (0)), (D.int (0)), (D.int (3))]), (D.tup [(D.int (-2)), (D.int (-1)), (D.int (0))]), (D.tup [(D.int (-2)), (D.int (-1)), (D.int (0))]), (D.tup [(D.int (-2)), (D.int (-1)), (D.int (0))]), (D.tup [(D.int (0)), (D.int (1)), (D.int (1)), (D.int (3))]), (D.tup [(D.int (0)), (D.int (0)), (D.int (2)), (D.int (3))]), (D.tup [(D.int (-5))]), (D.tup [(D.int (7))]), (D.tup [(D.int (0)), (D.int (3)), (D.int (3))]), (D.tup [(D.int (2)), (D.int (2)), (D.int (2))])])), some ((D.lst [(D.tup [(D.int (-2)), (D.int (0)), (D.int (2)), (D.int (2))]), (D.tup [(D.int (-1)), (D.int (1)), (D.int (1)), (D.int (1))]), (D.tup [(D.int (-1)), (D.int (0)), (D.int (0)), (D.int (3))]), (D.tup [(D.int (-2)), (D.int (-1)), (D.int (0))]), (D.tup [(D.int (-2)), (D.int (-1)), (D.int (0))]), (D.tup [(D.int (-2)), (D.int (-1)), (D.int (0))])]))]
def v23_r : En := [some ((D.tup [(D.int (1)), (D.int (1)), (D.int (4)), (D.int (4))])), some ((D.lst [(D.tup [(D.int (-2)), (D.int (0)), (D.int (2)), (D.int (2))]), (D.tup [(D.int (-1)), (D.int (1)), (D.int (1)), (D.int (1))]), (D.tup [(D.int (-1)), (D.int (0)), (D.int (0)), (D.int (3))]), (D.tup [(D.int (-2)), (D.int (-1)), (D.int (0))]), (D.tup [(D.int (-2)), (D.int (-1)), (D.int (0))]), (D.tup [(D.int (-2)), (D.int (-1)), (D.int (0))]), (D.tup [(D.int (0)), (D.int (1)), (D.int (1)), (D.int (3))]), (D.tup [(D.int (0)), (D.int (0)), (D.int (2)), (D.int (3))]), (D.tup [(D.int (-5))]), (D.tup [(D.int (7))]), (D.tup [(D.int (0)), (D.int (3)), (D.int (3))]), (D.tup [(D.int (2)), (D.int (2)), (D.int (2))])])), some ((D.lst [(D.tup [(D.int (-2)), (D.int (0)), (D.int (2)), (D.int (2))]), (D.tup [(D.int (-1)), (D.int (1)), (D.int (1)), (D.int (1))]), (D.tup [(D.int (-1)), (D.int (0)), (D.int (0)), (D.int (3))]), (D.tup [(D.int (-2)), (D.int (-1)), (D.int (0))]), (D.tup [(D.int (-2)), (D.int (-1)), (D.int (0))]), (D.tup [(D.int (-2)), (D.int (-1)), (D.int (0))])]))]
theorem g23_1_0 : (exs (exS (evE (callF l.gl P 13) l.gl 61) 100000 61) ((f23.body).take 1) v23_0 []) = .ok .next v23_1 [] := by kernel_rfl
theorem g23_2_0 : (exs (exS (evE (callF l.gl P 13) l.gl 61) 100000 61) (((f23.body).drop 1).take 1) v23_1 []) = .ok .next v23_2 [] := by kernel_rfl
theorem g23_3_0 : (exs (exS (evE (callF l.gl P 13) l.gl 61) 100000 61) ((((f23.body).drop 1).drop 1).take 1) v23_2 []) = .ok .next v23_3 [] := by kernel_rfl
theorem g23_4_0 : (exs (exS (evE (callF l.gl P 13) l.gl 61) 100000 61) (((((f23.body).drop 1).drop 1).drop 1).take 1) v23_3 []) = .ok .next v23_4 [] := by kernel_rfl
theorem g23_r_0 : (exs (exS (evE (callF l.gl P 13) l.gl 61) 100000 61) (((((f23.body).drop 1).drop 1).drop 1).drop 1) v23_4 []) = .ok (.ret ((D.bl true))) v23_r [] := by kernel_rfl
theorem h23_0  : callF l.gl P 14 23 [] [] = back 0 ((D.bl true)) [] := by
  rw [callF_at (f := f23) rfl rfl]
  exact seg_next 1 (g23_1_0) (seg_next 1 (g23_2_0) (seg_next 1 (g23_3_0) (seg_next 1 (g23_4_0) (seg_last (g23_r_0)))))
end Lk13

set_option Elab.async false
set_option linter.all false
set_option maxRecDepth 100000
set_option maxHeartbeats 0
namespace Lk13
open PySem Bw
def v24_0 : En := List.replicate f24.ns.length none
def v24_1 : En := [some ((D.lst [(D.tup []), (D.tup [(D.int (1)), (D.int (0))]), (D.tup [(D.int (0)), (D.int (3))]), (D.tup [(D.int (0)), (D.int (1)), (D.int (4))]), D.non, (D.int (5)), (D.str "ab"), (D.tup [(D.int (0)), (D.bl true)]), (D.tup [(D.int (0)), D.non]), (D.tup [(D.int (0)), (D.tup [(D.int (1))])]), (D.tup [(D.int (0)), (D.str "1")])])), none, none, none]
def v24_2 : En := [some ((D.lst [(D.tup []), (D.tup [(D.int (1)), (D.int (0))]), (D.tup [(D.int (0)), (D.int (3))]), (D.tup [(D.int (0)), (D.int (1)), (D.int (4))]), D.non, (D.int (5)), (D.str "ab"), (D.tup [(D.int (0)), (D.bl true)]), (D.tup [(D.int (0)), D.non]), (D.tup [(D.int (0)), (D.tup [(D.int (1))])]), (D.tup [(D.int (0)), (D.str "1")])])), some ((D.lst [])), none, none]
def v24_3 : En := [some ((D.lst [(D.tup []), (D.tup [(D.int (1)), (D.int (0))]), (D.tup [(D.int (0)), (D.int (3))]), (D.tup [(D.int (0)), (D.int (1)), (D.int (4))]), D.non, (D.int (5)), (D.str "ab"), (D.tup [(D.int (0)), (D.bl true)]), (D.tup [(D.int (0)), D.non]), (D.tup [(D.int (0)), (D.tup [(D.int (1))])]), (D.tup [(D.int (0)), (D.str "1")])])), some ((D.lst [(D.lst [(D.str "unfit"), (D.bl true)]), (D.lst [(D.str "unfit"), (D.bl true)]), (D.lst [(D.str "unfit"), (D.bl true)]), (D.lst [(D.str "unfit"), (D.bl true)]), (D.lst [(D.str "unfit"), (D.bl true)]), (D.lst [(D.str "unfit"), (D.bl true)]), (D.lst [(D.str "unfit"), (D.bl true)]), (D.lst [(D.str "unfit"), (D.bl true)]), (D.lst [(D.str "unfit"), (D.bl true)]), (D.lst [(D.str "unfit"), (D.bl true)]), (D.lst [(D.str "unfit"), (D.bl true)]), (D.lst [(D.str "unfit"), (D.bl true)]), (D.lst [(D.str "unfit"), (D.bl true)]), (D.lst [(D.str "unfit"), (D.bl true)]), (D.lst [(D.str "unfit"), (D.bl true)]), (D.lst [(D.str "unfit"), (D.bl true)]), (D.lst [(D.str "unfit"), (D.bl true)]), (D.lst [(D.str "unfit"), (D.bl true)]), (D.lst [(D.str "unfit"), (D.bl true)]), (D.lst [(D.str "unfit"), (D.bl true)]), (D.lst [(D.str "unfit"), (D.bl true)]), (D.lst [(D.str "unfit"), (D.bl true)]), (D.lst [(D.str "unfit"), (D.bl true)]), (D.lst [(D.str "unfit"), (D.bl true)]), (D.lst [(D.str "unfit"), (D.bl true)]), (D.lst [(D.str "unfit"), (D.bl true)]), (D.lst [(D.str "unfit"), (D.bl true)]), (D.lst [(D.str "unfit"), (D.bl true)]), (D.lst [(D.str "unfit"), (D.bl true)]), (D.lst [(D.str "unfit"), (D.bl true)]), (D.lst [(D.str "unfit"), (D.bl true)]), (D.lst [(D.str "unfit"), (D.bl true)]), (D.lst [(D.str "unfit"), (D.bl true)])])), some ((D.tup [(D.int (0)), (D.str "1")])), none]
def v24_r : En := [some ((D.lst [(D.tup []), (D.tup [(D.int (1)), (D.int (0))]), (D.tup [(D.int (0)), (D.int (3))]), (D.tup [(D.int (0)), (D.int (1)), (D.int (4))]), D.non, (D.int (5)), (D.str "ab"), (D.tup [(D.int (0)), (D.bl true)]), (D.tup [(D.int (0)), D.non]), (D.tup [(D.int (0)), (D.tup [(D.int (1))])]), (D.tup [(D.int (0)), (D.str "1")])])), some ((D.lst [(D.lst [(D.str "unfit"), (D.bl true)]), (D.lst [(D.str "unfit"), (D.bl true)]), (D.lst [(D.str "unfit"), (D.bl true)]), (D.lst [(D.str "unfit"), (D.bl true)]), (D.lst [(D.str "unfit"), (D.bl true)]), (D.lst [(D.str "unfit"), (D.bl true)]), (D.lst [(D.str "unfit"), (D.bl true)]), (D.lst [(D.str "unfit"), (D.bl true)]), (D.lst [(D.str "unfit"), (D.bl true)]), (D.lst [(D.str "unfit"), (D.bl true)]), (D.lst [(D.str "unfit"), (D.bl true)]), (D.lst [(D.str "unfit"), (D.bl true)]), (D.lst [(D.str "unfit"), (D.bl true)]), (D.lst [(D.str "unfit"), (D.bl true)]), (D.lst [(D.str "unfit"), (D.bl true)]), (D.lst [(D.str "unfit"), (D.bl true)]), (D.lst [(D.str "unfit"), (D.bl true)]), (D.lst [(D.str "unfit"), (D.bl true)]), (D.lst [(D.str "unfit"), (D.bl true)]), (D.lst [(D.str "unfit"), (D.bl true)]), (D.lst [(D.str "unfit"), (D.bl true)]), (D.lst [(D.str "unfit"), (D.bl true)]), (D.lst [(D.str "unfit"), (D.bl true)]), (D.lst [(D.str "unfit"), (D.bl true)]), (D.lst [(D.str "unfit"), (D.bl true)]), (D.lst [(D.str "unfit"), (D.bl true)]), (D.lst [(D.str "unfit"), (D.bl true)]), (D.lst [(D.str "unfit"), (D.bl true)]), (D.lst [(D.str "unfit"), (D.bl true)]), (D.lst [(D.str "unfit"), (D.bl true)]), (D.lst [(D.str "unfit"), (D.bl true)]), (D.lst [(D.str "unfit"), (D.bl true)]), (D.lst [(D.str "unfit"), (D.bl true)])])), some ((D.tup [(D.int (0)), (D.str "1")])), none]
theorem g24_1_2 : (fun A B : SO => exs (exS (evE (callF l.gl P 13) l.gl 61) 100000 61) ((f24.body).take 1) v24_0 [A, B]) = fun A B => .ok .next v24_1 [A, B] := by kernel_rfl
theorem g24_2_2 : (fun A B : SO => exs (exS (evE (callF l.gl P 13) l.gl 61) 100000 61) (((f24.body).drop 1).take 1) v24_1 [A, B]) = fun A B => .ok .next v24_2 [A, B] := by kernel_rfl
theorem g24_3_2 : (fun A B : SO => exs (exS (evE (callF l.gl P 13) l.gl 61) 100000 61) ((((f24.body).drop 1).drop 1).take 1) v24_2 [A, B]) = fun A B => .ok .next v24_3 [A, B] := by kernel_rfl
theorem g24_r_2 : (fun A B : SO => exs (exS (evE (callF l.gl P 13) l.gl 61) 100000 61) ((((f24.body).drop 1).drop 1).drop 1) v24_3 [A, B]) = fun A B => .ok (.ret ((D.bl true))) v24_r [A, B] := by kernel_rfl
theorem h24_2 (A B : SO) : callF l.gl P 14 24 [] [A, B] = back 2 ((D.bl true)) [A, B] := by
  rw [callF_at (f := f24) rfl rfl]
  exact seg_next 1 (congrFun (congrFun g24_1_2 A) B) (seg_next 1 (congrFun (congrFun g24_2_2 A) B) (seg_next 1 (congrFun (congrFun g24_3_2 A) B) (seg_last (congrFun (congrFun g24_r_2 A) B))))
theorem g24_1_3 : (fun A B C : SO => exs (exS (evE (callF l.gl P 13) l.gl 61) 100000 61) ((f24.body).take 1) v24_0 [A, B, C]) = fun A B C => .ok .next v24_1 [A, B, C] := by kernel_rfl
theorem g24_2_3 : (fun A B C : SO => exs (exS (evE (callF l.gl P 13) l.gl 61) 100000 61) (((f24.body).drop 1).take 1) v24_1 [A, B, C]) = fun A B C => .ok .next v24_2 [A, B, C] := by kernel_rfl
theorem g24_3_3 : (fun A B C : SO => exs (exS (evE (callF l.gl P 13) l.gl 61) 100000 61) ((((f24.body).drop 1).drop 1).take 1) v24_2 [A, B, C]) = fun A B C => .ok .next v24_3 [A, B, C] := by kernel_rfl
theorem g24_r_3 : (fun A B C : SO => exs (exS (evE (callF l.gl P 13) l.gl 61) 100000 61) ((((f24.body).drop 1).drop 1).drop 1) v24_3 [A, B, C]) = fun A B C => .ok (.ret ((D.bl true))) v24_r [A, B, C] := by kernel_rfl
theorem h24_3 (A B C : SO) : callF l.gl P 14 24 [] [A, B, C] = back 3 ((D.bl true)) [A, B, C] := by
  rw [callF_at (f := f24) rfl rfl]
  exact seg_next 1 (congrFun (congrFun (congrFun g24_1_3 A) B) C) (seg_next 1 (congrFun (congrFun (congrFun g24_2_3 A) B) C) (seg_next 1 (congrFun (congrFun (congrFun g24_3_3 A) B) C) (seg_last (congrFun (congrFun (congrFun g24_r_3 A) B) C))))
end Lk13

set_option linter.all false
set_option maxRecDepth 100000
set_option maxHeartbeats 1000000
/-! Bw: k13's laps -/
namespace Bw
open PySem
structure Has13 (P : List F) : Prop where
  hw : HasW P 0 1 2 3 4 5
  h6 : P[6]? = some (fFirstBack 4 5)
  h7 : P[7]? = some (fLastBack 6 5)
  h8 : P[8]? = some (fMirr 4 5)
  h10 : P[10]? = some fTake
  h12 : P[12]? = some (fLists 12)
  h13 : P[13]? = some (fSame 13)
  h14 : P[14]? = some fLawLed
  h15 : P[15]? = some fShift
  h16 : P[16]? = some (fDisk 10 15)
  h17 : P[17]? = some (fFirstLed 14)
  h18 : P[18]? = some (fLastLed 14)
  h19 : P[19]? = some (fLawBack "_law_first_back" 17)
  h20 : P[20]? = some (fLawBack "_law_last_back" 18)
  h21 : P[21]? = some (fGlass 14)
theorem pl_TI {n : Nat} {d : List Int} (h : d.length ≤ lim) : Pl (n + 1) (TI d) := .tup (by rw [List.length_map]; exact h) (fun x hx => by
  obtain ⟨i, _, rfl⟩ := List.mem_map.mp hx
  exact .int _ _)
def lapB : List S := [o1 10, o2 16, o3 6 12 7, o4 13 8 19 20 21, o5 10 14]
section
variable {gl : PySem.Str → Option D} {P : List F} {m r M : Nat} {S : Sto} {ns : List Int} {lap : D} {x3 x4 x5 x6 x7 x8 x9 xa xb : Option D}
theorem lap_ok (H : Has13 P) {S : Sto} (T : Tin r M S) (hM : M < 800000) :
    ∃ y3 y4 y5 y6 y7 y8 y9 ya yb S' M', exs (exS (evE (callF gl P (m + 6)) gl 61) 100000 60) lapB (E12 ns r (some lap) x3 x4 x5 x6 x7 x8 x9 xa xb) S = .ok .next (E12 ns r (some lap) y3 y4 y5 y6 y7 y8 y9 ya yb) S' ∧ Tin r M' S' ∧ M' ≤ M + 30 ∧ S'.length = S.length := by
  have tk : ∀ (w : Int) (S : Sto) (q : Nat), 0 < w → w < 1000000 → Tin r q S → q < 1000000 → ∃ (k : Int) (S' : Sto), callF gl P (m + 6) 10 [.ref r, .int w] S = .ok (.int k) S' ∧ 0 ≤ k ∧ k < w ∧ Tin r (q + 1) S' ∧ S'.length = S.length ∧ ∀ q, q ≠ r → S'[q]? = S[q]? := fun w S q w0 w1 t m1 => take_ok (d := m + 5) H.h10 t w0 w1 m1
  obtain ⟨a, S1, t1, t2, t3, t4, t5, t6⟩ := tk 9 S M (by decide) (by decide) T (by omega)
  obtain ⟨p, rfl⟩ := Int.eq_ofNat_of_zero_le t2
  have hN : ((1 + p : Nat) : Int) = 1 + (p : Int) := by omega
  obtain ⟨d, S2, q1, q2⟩ := disk_ok (gl := gl) (n := m + 4) (N := 1 + p) (s := S1) (M := M + 1) H.h16 H.h10 H.h15 (by omega) (by omega) t4 (by omega)
  rw [hN] at q1
  obtain ⟨M2, q3, q4⟩ := q2.box
  have W := q2.wh
  have hl : d.length ≤ 1000 := by
    rw [q2.len]
    omega
  have hlim : d.length ≤ lim := Nat.le_trans hl (by decide)
  have c1 := o1_ok (gl := gl) (ns := ns) (x2 := some lap) (x3 := x3) (x4 := x4) (x5 := x5) (x6 := x6) (x7 := x7) (x8 := x8) (x9 := x9) (xa := xa) (xb := xb) t1
  have c2 := o2_ok (gl := gl) (ns := ns) (x2 := some lap) (x4 := x4) (x5 := x5) (x6 := x6) (x7 := x7) (x8 := x8) (x9 := x9) (xa := xa) (xb := xb) q1
  have g1 : callF gl P (m + 6) 12 [TI d] S2 = .ok (.lst (d.map D.int)) S2 := (callF_at H.h12 rfl).trans (lists_b hlim (fun i s => lists0_ok (n := m + 4) H.h12))
  have g2 : callF gl P (m + 6) 6 [.lst (d.map D.int)] S2 = .ok (TI (tabI d.length (firstI d))) S2 := first_back_ok (n := m + 1) H.hw H.h6 W hl (.inr rfl)
  have g3 : callF gl P (m + 6) 7 [TI d] S2 = .ok (TI (tabI d.length (lastI d))) S2 := last_back_ok (n := m) H.hw H.h6 H.h7 W hl (.inl rfl)
  have c3 := o3_ok (gl := gl) (ns := ns) (r := r) (x2 := some lap) (x3 := some (.int (1 + (p : Int)))) (x5 := x5) (x6 := x6) (x7 := x7) (x8 := x8) (x9 := x9) (xa := xa) (xb := xb) g1 g2 g3
  have g4 : callF gl P (m + 6) 8 [TI d] S2 = .ok (TI (tabI d.length fun i => -ledI d (-i))) S2 := mirrored_ok (n := m + 1) H.hw H.h8 W hl (.inl rfl)
  have g5 : callF gl P (m + 6) 19 [TI d] S2 = .ok (TI (tabI d.length (firstI d))) S2 := law_first_ok (n := m + 3) H.h14 H.h17 H.h19 W hl
  have g6 : callF gl P (m + 6) 20 [TI d] S2 = .ok (TI (tabI d.length (lastI d))) S2 := law_last_ok (n := m + 3) H.h14 H.h18 H.h20 W hl
  have g7 : callF gl P (m + 6) 21 [TI d] S2 = .ok (TI (tabI d.length fun i => -ledI d (-i))) S2 := law_glass_ok (n := m + 4) H.h14 H.h21 W hl
  have pl : Pl 2 (.lst [TI (tabI d.length (firstI d)), TI (tabI d.length (lastI d)), TI (tabI d.length fun i => -ledI d (-i))]) := .lst (by show 3 ≤ lim; decide) (pc (pl_TI (by rw [tabI_len]; exact hlim)) (pc (pl_TI (by rw [tabI_len]; exact hlim)) (pc (pl_TI (by rw [tabI_len]; exact hlim)) pn)))
  have g8 := same_ok (gl := gl) (d := m + 3) H.h13 2 _ S2 pl
  have c4 := o4_ok (cf := callF gl P (m + 6)) (gl := gl) (ns := ns) (r := r) (x2 := some lap) (x3 := some (.int (1 + (p : Int)))) (x5 := x5) (x8 := x8) (x9 := x9) (xa := xa) (xb := xb) g4 g5 g6 g7 g8
  obtain ⟨y5, y8, y9, ya, yb, S3, r1, r2, r3, r4⟩ := inner (cf := callF gl P (m + 6)) (gl := gl) (kt := 10) (kq := 14) (ns := ns) (x2 := some lap) (x3 := some (.int (1 + (p : Int)))) (n0 := 4) W (fun S q => tk 60 S q (by decide) (by decide)) (fun z S => lawled_ok (n := m + 5) H.h14 W.pos hl)
    (fun z S => by rw [lawled_ok (n := m + 5) H.h14 (by rw [tabI_len]; exact W.pos) (by rw [tabI_len]; exact hl), fs_led W]) (fun z S => by rw [lawled_ok (n := m + 5) H.h14 (by rw [tabI_len]; exact W.pos) (by rw [tabI_len]; exact hl), ls_led W]) [.int 0, .int 1, .int 2, .int 3] 0 M2 S2 x5 x8 x9 xa xb q4 (by show M2 + 2 * 4 < 1000000; omega)
  have c5 : exS (evE (callF gl P (m + 6)) gl 61) 100000 60 (o5 10 14) (E12 ns r (some lap) (some (.int (1 + (p : Int)))) (some (TI d)) x5 (some (TI (tabI d.length (firstI d)))) (some (TI (tabI d.length (lastI d)))) x8 x9 xa xb) S2 = .ok .next (E12 ns r (some lap) (some (.int (1 + (p : Int)))) (some (TI d)) y5 (some (TI (tabI d.length (firstI d)))) (some (TI (tabI d.length (lastI d)))) y8 y9 ya yb) S3 := by
    unfold o5
    have hi : evIt (evE (callF gl P (m + 6)) gl 61) (.rg1 (.cst (D.int 4))) (E12 ns r (some lap) (some (.int (1 + (p : Int)))) (some (TI d)) x5 (some (TI (tabI d.length (firstI d)))) (some (TI (tabI d.length (lastI d)))) x8 x9 xa xb) S2 = .ok (none, [.int 0, .int 1, .int 2, .int 3]) S2 := rg1_ok (N := 4) (by simp only [w_bind, w_bindx, w_to, w_tox, w_quiet, w_sq, w_sqr, w_sqx, w_lp, w_lpr, w_vw, w_bw, w_fin, w_finx, k_b, k_c2, k_q2, w_or, k_c, k_ht, k_hf, k_h2, k_h, k_at, k_af, k_a, k_ot, k_of, k_o, k_n, k_T2, k_T, k_it, k_if, k_g, k_s, k_x, k_l3, k_l2, k_l, k_e2, k_e, k_as, k_u3, k_u2, k_u, k_set2, k_set, k_ret, k_ift, k_iff, k_wt, k_wf, e_cst, e_var, e_bin, e_neg, e_cmp, e_chain, e_and, e_or, e_not, e_ife, e_call, e_bi, e_isi, e_tup, e_lst, e_ix, e_sl, es_nil, es_cons, e_T, eA_one, eA_cons, eO_one, eO_cons, tr_bl, tr_int, a_nm, a_tup, a_sub, as_nil, as_cons, x_nil, x_cons, x_set, x_ife, x_ret, x_rais, List.getElem?_cons_zero, List.getElem?_cons_succ, List.length_cons, List.length_nil, List.map_cons, List.map_nil, List.cons_append, List.nil_append, Nat.reduceSub, Nat.reduceAdd, List.replicate_succ, List.replicate_zero, List.set_cons_zero, List.set_cons_succ, Nat.zero_add, Nat.sub_self, b_add, b_sub, b_ge, b_gt, b_le, b_lt, b_eq, b_ne, b_mul, b_fdiv, b_mod, u_abs, u_inti, u_intb, u_gcd, Bool.not_true, Bool.not_false, is_iI, is_iB, is_iL, is_iT, is_iLT, is_iBS, is_bI, is_bB, is_bLT, is_bBS, is_tL, is_tT, is_tLT, is_lL, is_lT, is_lLT, n_i, n_b, b_eqb, b_neb, i_sq, j_tup, j_lst, j_scr, i_zip, j_zip, j_zipT, j_zipL, u_tupleL, u_tupleT, deep_int, deep_bl, List.take_length, u_all2, w_upi, w_upb, w_upt, w_upl, u_len2, u_list2, k_t2, k_t3, m_l1, m_l2, m_l3, m_l4, m_l5, x_tup0, x_tup1, okMul_1, b_eqt, decide_true, decide_false, Bool.true_and, Bool.false_and]; rfl) (by decide)
    rw [x_for, hi, w_to]
    exact r1
  have run : exs (exS (evE (callF gl P (m + 6)) gl 61) 100000 60) lapB (E12 ns r (some lap) x3 x4 x5 x6 x7 x8 x9 xa xb) S = .ok .next (E12 ns r (some lap) (some (.int (1 + (p : Int)))) (some (TI d)) y5 (some (TI (tabI d.length (firstI d)))) (some (TI (tabI d.length (lastI d)))) y8 y9 ya yb) S3 := by
    unfold lapB
    rw [x_cons, c1, w_sq, x_cons, c2, w_sq, x_cons, c3, w_sq, x_cons, c4, w_sq, x_cons, c5, w_sq, x_nil]
  exact ⟨_, _, _, _, _, _, _, _, _, S3, M2 + 2 * 4, run, r2, by omega, by rw [r3, q2.size, t5]⟩
theorem laps_ok (H : Has13 P) {n0 : Nat} : ∀ (xs : List D) (t M : Nat) (S : Sto) (x2 x3 x4 x5 x6 x7 x8 x9 xa xb : Option D), Tin r M S → M + 30 * xs.length < 800000 →
    ∃ e' S', exFor (evE (callF gl P (m + 6)) gl 61) (exS (evE (callF gl P (m + 6)) gl 61) 100000 60) (.nm 2) lapB none n0 t xs (E12 ns r x2 x3 x4 x5 x6 x7 x8 x9 xa xb) S = .ok .next e' S' ∧ S'.length = S.length
  | [], t, M, S, x2, x3, x4, x5, x6, x7, x8, x9, xa, xb, T, hM => ⟨_, S, rfl, rfl⟩
  | y :: xs, t, M, S, x2, x3, x4, x5, x6, x7, x8, x9, xa, xb, T, hM => by
    rw [List.length_cons] at hM
    obtain ⟨y3, y4, y5, y6, y7, y8, y9, ya, yb, S1, M1, q1, q2, q3, q4⟩ := lap_ok (gl := gl) (m := m) (ns := ns) (lap := y) (x3 := x3) (x4 := x4) (x5 := x5) (x6 := x6) (x7 := x7) (x8 := x8) (x9 := x9) (xa := xa) (xb := xb) H T (by omega)
    obtain ⟨e', S2, p1, p2⟩ := laps_ok H (n0 := n0) xs (t + 1) M1 S1 (some y) y3 y4 y5 y6 y7 y8 y9 ya yb q2 (by omega)
    refine ⟨e', S2, ?_, by omega⟩
    rw [for_step (e1 := E12 ns r (some y) x3 x4 x5 x6 x7 x8 x9 xa xb) rfl q1, p1]
end
end Bw

set_option Elab.async false
set_option linter.all false
set_option maxRecDepth 100000
set_option maxHeartbeats 4000000
namespace Lk13
open PySem Bw
theorem has : Has13 P where
  hw := ⟨rfl, rfl, rfl, rfl, rfl, rfl⟩
  h6 := rfl
  h7 := rfl
  h8 := rfl
  h10 := rfl
  h12 := rfl
  h13 := rfl
  h14 := rfl
  h15 := rfl
  h16 := rfl
  h17 := rfl
  h18 := rfl
  h19 := rfl
  h20 := rfl
  h21 := rfl
theorem h23 : callF l.gl P 14 23 [] [] = .ok (.bl true) [] := h23_0
theorem h24 {s : Sto} (h : s.length = 2 ∨ s.length = 3) : callF l.gl P 14 24 [] s = .ok (.bl true) s := hand_any (fun A B => h24_2 A B) (fun A B C => h24_3 A B C) h
end Lk13
namespace Bw
open PySem
def law1 : S := (.ife (.not (.call 23 [])) [(.ret (.cst (D.bl false)))] [])
def law2 : S := (.set (.nm 1) (.call 9 [(.call 11 [(.var 0), (.cst (D.int (1)))]), (.cst (D.int (0)))]))
def law3 : S := (.for_ (.nm 2) (.rg1 (.cst (D.int (3)))) lapB)
def law4 : S := (.ret (.call 24 []))
section
variable {gl : PySem.Str → Option D} {cf : CF} {ns : List Int} {q r : Nat} {s s1 s2 : Sto} {e : En}
theorem law1_ok (h : cf 23 [] [] = .ok (.bl true) []) : exS (evE cf gl 61) 100000 61 law1 [some (.scr ns), none, none, none, none, none, none, none, none, none, none, none] [] = .ok .next [some (.scr ns), none, none, none, none, none, none, none, none, none, none, none] [] := by
  simp only [law1, w_bind, w_bindx, w_to, w_tox, w_quiet, w_sq, w_sqr, w_sqx, w_lp, w_lpr, w_vw, w_bw, w_fin, w_finx, k_b, k_c2, k_q2, w_or, k_c, k_ht, k_hf, k_h2, k_h, k_at, k_af, k_a, k_ot, k_of, k_o, k_n, k_T2, k_T, k_it, k_if, k_g, k_s, k_x, k_l3, k_l2, k_l, k_e2, k_e, k_as, k_u3, k_u2, k_u, k_set2, k_set, k_ret, k_ift, k_iff, k_wt, k_wf, e_cst, e_var, e_bin, e_neg, e_cmp, e_chain, e_and, e_or, e_not, e_ife, e_call, e_bi, e_isi, e_tup, e_lst, e_ix, e_sl, es_nil, es_cons, e_T, eA_one, eA_cons, eO_one, eO_cons, tr_bl, tr_int, a_nm, a_tup, a_sub, as_nil, as_cons, x_nil, x_cons, x_set, x_ife, x_ret, x_rais, List.getElem?_cons_zero, List.getElem?_cons_succ, List.length_cons, List.length_nil, List.map_cons, List.map_nil, List.cons_append, List.nil_append, Nat.reduceSub, Nat.reduceAdd, List.replicate_succ, List.replicate_zero, List.set_cons_zero, List.set_cons_succ, Nat.zero_add, Nat.sub_self, b_add, b_sub, b_ge, b_gt, b_le, b_lt, b_eq, b_ne, b_mul, b_fdiv, b_mod, u_abs, u_inti, u_intb, u_gcd, Bool.not_true, Bool.not_false, is_iI, is_iB, is_iL, is_iT, is_iLT, is_iBS, is_bI, is_bB, is_bLT, is_bBS, is_tL, is_tT, is_tLT, is_lL, is_lT, is_lLT, n_i, n_b, b_eqb, b_neb, i_sq, j_tup, j_lst, j_scr, i_zip, j_zip, j_zipT, j_zipL, u_tupleL, u_tupleT, deep_int, deep_bl, List.take_length, u_all2, w_upi, w_upb, w_upt, w_upl, u_len2, u_list2, k_t2, k_t3, m_l1, m_l2, m_l3, m_l4, m_l5, x_tup0, x_tup1, okMul_1, b_eqt, decide_true, decide_false, Bool.true_and, Bool.false_and, h]
theorem law2_ok (h1 : cf 11 [.scr ns, .int 1] [] = .ok (.ref q) s1) (h2 : cf 9 [.ref q, .int 0] s1 = .ok (.ref r) s2) : exS (evE cf gl 61) 100000 61 law2 [some (.scr ns), none, none, none, none, none, none, none, none, none, none, none] [] = .ok .next (E12 ns r none none none none none none none none none none) s2 := by
  simp only [law2, E12, w_bind, w_bindx, w_to, w_tox, w_quiet, w_sq, w_sqr, w_sqx, w_lp, w_lpr, w_vw, w_bw, w_fin, w_finx, k_b, k_c2, k_q2, w_or, k_c, k_ht, k_hf, k_h2, k_h, k_at, k_af, k_a, k_ot, k_of, k_o, k_n, k_T2, k_T, k_it, k_if, k_g, k_s, k_x, k_l3, k_l2, k_l, k_e2, k_e, k_as, k_u3, k_u2, k_u, k_set2, k_set, k_ret, k_ift, k_iff, k_wt, k_wf, e_cst, e_var, e_bin, e_neg, e_cmp, e_chain, e_and, e_or, e_not, e_ife, e_call, e_bi, e_isi, e_tup, e_lst, e_ix, e_sl, es_nil, es_cons, e_T, eA_one, eA_cons, eO_one, eO_cons, tr_bl, tr_int, a_nm, a_tup, a_sub, as_nil, as_cons, x_nil, x_cons, x_set, x_ife, x_ret, x_rais, List.getElem?_cons_zero, List.getElem?_cons_succ, List.length_cons, List.length_nil, List.map_cons, List.map_nil, List.cons_append, List.nil_append, Nat.reduceSub, Nat.reduceAdd, List.replicate_succ, List.replicate_zero, List.set_cons_zero, List.set_cons_succ, Nat.zero_add, Nat.sub_self, b_add, b_sub, b_ge, b_gt, b_le, b_lt, b_eq, b_ne, b_mul, b_fdiv, b_mod, u_abs, u_inti, u_intb, u_gcd, Bool.not_true, Bool.not_false, is_iI, is_iB, is_iL, is_iT, is_iLT, is_iBS, is_bI, is_bB, is_bLT, is_bBS, is_tL, is_tT, is_tLT, is_lL, is_lT, is_lLT, n_i, n_b, b_eqb, b_neb, i_sq, j_tup, j_lst, j_scr, i_zip, j_zip, j_zipT, j_zipL, u_tupleL, u_tupleT, deep_int, deep_bl, List.take_length, u_all2, w_upi, w_upb, w_upt, w_upl, u_len2, u_list2, k_t2, k_t3, m_l1, m_l2, m_l3, m_l4, m_l5, x_tup0, x_tup1, okMul_1, b_eqt, decide_true, decide_false, Bool.true_and, Bool.false_and, h1, h2]
theorem law4_ok (h : cf 24 [] s = .ok (.bl true) s) : exS (evE cf gl 61) 100000 61 law4 e s = .ok (.ret (.bl true)) e s := by
  simp only [law4, w_bind, w_bindx, w_to, w_tox, w_quiet, w_sq, w_sqr, w_sqx, w_lp, w_lpr, w_vw, w_bw, w_fin, w_finx, k_b, k_c2, k_q2, w_or, k_c, k_ht, k_hf, k_h2, k_h, k_at, k_af, k_a, k_ot, k_of, k_o, k_n, k_T2, k_T, k_it, k_if, k_g, k_s, k_x, k_l3, k_l2, k_l, k_e2, k_e, k_as, k_u3, k_u2, k_u, k_set2, k_set, k_ret, k_ift, k_iff, k_wt, k_wf, e_cst, e_var, e_bin, e_neg, e_cmp, e_chain, e_and, e_or, e_not, e_ife, e_call, e_bi, e_isi, e_tup, e_lst, e_ix, e_sl, es_nil, es_cons, e_T, eA_one, eA_cons, eO_one, eO_cons, tr_bl, tr_int, a_nm, a_tup, a_sub, as_nil, as_cons, x_nil, x_cons, x_set, x_ife, x_ret, x_rais, List.getElem?_cons_zero, List.getElem?_cons_succ, List.length_cons, List.length_nil, List.map_cons, List.map_nil, List.cons_append, List.nil_append, Nat.reduceSub, Nat.reduceAdd, List.replicate_succ, List.replicate_zero, List.set_cons_zero, List.set_cons_succ, Nat.zero_add, Nat.sub_self, b_add, b_sub, b_ge, b_gt, b_le, b_lt, b_eq, b_ne, b_mul, b_fdiv, b_mod, u_abs, u_inti, u_intb, u_gcd, Bool.not_true, Bool.not_false, is_iI, is_iB, is_iL, is_iT, is_iLT, is_iBS, is_bI, is_bB, is_bLT, is_bBS, is_tL, is_tT, is_tLT, is_lL, is_lT, is_lLT, n_i, n_b, b_eqb, b_neb, i_sq, j_tup, j_lst, j_scr, i_zip, j_zip, j_zipT, j_zipL, u_tupleL, u_tupleT, deep_int, deep_bl, List.take_length, u_all2, w_upi, w_upb, w_upt, w_upl, u_len2, u_list2, k_t2, k_t3, m_l1, m_l2, m_l3, m_l4, m_l5, x_tup0, x_tup1, okMul_1, b_eqt, decide_true, decide_false, Bool.true_and, Bool.false_and, h]
end
end Bw
namespace Lk13
open PySem Bw
theorem main (ns : List Int) (h : ns.length ≤ 63) : ∃ s, callF l.gl l.P 15 25 [.scr ns] [] = .ok (.bl true) s := by
  rw [P_eq]
  obtain ⟨q, r, s1, s2, h1, h2, t, hl⟩ := tin_made (gl := l.gl) (P := P) (d := 13) (j := 11) (b := 9) (z := _) rfl rfl (by decide) (by decide) ns h
  have c1 := law1_ok (cf := callF l.gl P 14) (gl := l.gl) (ns := ns) h23
  have c2 := law2_ok (cf := callF l.gl P 14) (gl := l.gl) h1 h2
  obtain ⟨e', s3, p1, p2⟩ := laps_ok (gl := l.gl) (m := 8) (ns := ns) (n0 := 3) has [.int 0, .int 1, .int 2] 0 0 s2 none none none none none none none none none none t (by decide)
  have c3 : exS (evE (callF l.gl P 14) l.gl 61) 100000 61 law3 (E12 ns r none none none none none none none none none none) s2 = .ok .next e' s3 := by
    have hi : evIt (evE (callF l.gl P 14) l.gl 61) (.rg1 (.cst (D.int 3))) (E12 ns r none none none none none none none none none none) s2 = .ok (none, [.int 0, .int 1, .int 2]) s2 := rg1_ok (N := 3) (by rw [e_cst]; rfl) (by decide)
    unfold law3
    rw [x_for, hi, w_to]
    exact p1
  have c4 := law4_ok (cf := callF l.gl P 14) (gl := l.gl) (e := e') (h24 (s := s3) (by omega))
  have run : fin ([] : Sto).length (exs (exS (evE (callF l.gl P 14) l.gl 61) 100000 61) [law1, law2, law3, law4] [some (.scr ns), none, none, none, none, none, none, none, none, none, none, none] []) = .ok (.bl true) (s3.take 0) := by
    rw [x_cons, c1, w_sq, x_cons, c2, w_sq, x_cons, c3, w_sq, x_cons, c4, w_sqr]
    rfl
  exact ⟨_, (callF_at (f := f25) rfl rfl).trans run⟩
end Lk13

set_option Elab.async false
set_option linter.all false
set_option maxRecDepth 100000
set_option maxHeartbeats 0
namespace Lk13
open PySem PySem.Spec PySem.W HandSHeadRun PyProof.Rows L2 Bw
abbrev R : PySem.W.OpenRow := PySem.W.OpenLaw.row PySem.Challenge.rw_bothwheels_k13_whole_first_and_last_back
abbrev hk : PySem.W.Hook := hookB 2 l.gc l.fa l.fn
def ob (s : PySem.W.SharedT) : He.AlD := obsBG 2 l.gc l.fa l.fn (HandSHeadRun.getT s)
theorem ob_eq (s : PySem.W.SharedT) : ob s = hk.obs s.abs := obsBG_eq (HandSHeadRun.getT_eq s)
def loose : List PySem.Str := (l.ds.map Df.name).dropLast ++ [("Unfit" : PySem.Str)]
def vw : List Nat := [31]
noncomputable abbrev W0 (w : World) := HandSHeadRun.wholeF (fun p => HandSHeadRun.stepQ (HandSHeadRun.denQ HandSHeadRun.tabQ) p w) HandSHeadRun.fenceQ 20000 R.prog
theorem run1 (w : World) : (W0 w).map (fun x => HandSHeadRun.looksF R.prog x.1.heap x.2.abs) = some true := by kernel_rfl
theorem run2 (w : World) : (W0 w).map (fun x => HandSHeadRun.seenQ (PySem.W.view R.prog vw) loose (importedModules R.prog.main.body) (fun s => xlAt (PySem.W.view R.prog vw) [] s && recOk R.toRowW.records s) x.2.abs) = some (openGood (PySem.W.view R.prog vw) loose) := by kernel_rfl
theorem run3 (w : World) : (W0 w).map (fun x => ob x.2) = some (hk.val w) := by kernel_rfl
theorem run (w : World) : HandSHeadRun.RunEqI R (PySem.W.view R.prog vw) hk ob 20000 loose w := by
  unfold HandSHeadRun.RunEqI
  have h1 := run1 w
  have h2 := run2 w
  have h3 := run3 w
  revert h1 h2 h3
  show (W0 w).map _ = some true → (W0 w).map _ = some _ → (W0 w).map _ = some _ → (W0 w).map _ = some _
  generalize W0 w = z
  intro h1 h2 h3
  cases z with
  | none => cases h1
  | some x =>
    exact congrArg some (Prod.ext (Option.some.inj h1) (Prod.ext (Option.some.inj h2) (Option.some.inj h3)))
end Lk13

set_option Elab.async false
set_option linter.all false
set_option maxRecDepth 100000
set_option maxHeartbeats 0
open PySem PySem.W PySem.Calls PyProof.Rows
theorem PySem.Challenge.cw_bothwheels_k13_whole_first_and_last_back_holds : PySem.Challenge.rw_bothwheels_k13_whole_first_and_last_back.Holds := by
  w_on; o_law
  refine HandSHeadRun.head_imp (r := OpenLaw.row PySem.Challenge.rw_bothwheels_k13_whole_first_and_last_back) (q := view (OpenLaw.row PySem.Challenge.rw_bothwheels_k13_whole_first_and_last_back).prog Lk13.vw) (H := Lk13.hk) (ob := Lk13.ob) (M := 20000) (loose := Lk13.loose) (d := HandSHeadRun.topDef (OpenLaw.row PySem.Challenge.rw_bothwheels_k13_whole_first_and_last_back).prog 31) (kwd := []) Lk13.ob_eq
    Lk13.run (by kernel_rfl) (by kernel_rfl) (by kernel_rfl) (by rfl) (by first | assumption | decide +kernel) (by decide +kernel) ⟨rfl, rfl, rfl, rfl, rfl, by decide +kernel⟩ ?hw ?hc
  case hw => w_witness2
  case hc =>
    refine L2.walk_ofE (l := PySem.Challenge.rw_bothwheels_k13_whole_first_and_last_back) (n := 63) (k := 16) (x := "script") (CX := L2.CX0) rfl (by decide) (by kernel_rfl) ⟨rfl, by decide, by decide⟩ ?F (fun _ _ _ _ z => z)
    intro w mg fa h Y G hmg0
    obtain ⟨K, KX, NL, c⟩ := Y
    have hmg : mg (Lk13.d25.name) = some (.ref fa) := by
      have e : (HandSHeadRun.topDef (OpenLaw.row PySem.Challenge.rw_bothwheels_k13_whole_first_and_last_back).prog 31).name = ("law" : PySem.Str) := by kernel_rfl
      rw [e] at hmg0
      exact hmg0
    obtain ⟨fd, hb, hs, hF⟩ := Bw.Lw.end_ (l := Lk13.l) 15 25 (df := Lk13.d25) rfl rfl Lk13.scs Lk13.bds Lk13.kws (by decide +kernel) Lk13.main (P := (PySem.Challenge.rw_bothwheels_k13_whole_first_and_last_back).prog) (w := w) KX NL G hmg c
    exact ⟨K, fd, _, KX, hb, hs, hF⟩

