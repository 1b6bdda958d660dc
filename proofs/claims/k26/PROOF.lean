import PyProof.Rows.All
import Wide.All
import OpenK.AllK
import Wide.FinOn
import HandS.ForMost
import HandS.ForExc
import HandS.TryOnly
import HandS.TryMany
import HandS.Iter
import HandS.Zip
import HandS.Star
import HandS.Wide
import HandS.IsInst
import HandS.TupAny
import HandS.Evl
import HandS.Style
import HandS.Property
import HandS.ClsMeth
import HandS.Defaults
import HandS.MakeKw
import HandS.OwnEq
import HandS.Deep
import HandS.Conv
import HandS.Codes
import HandS.NamedTupSort
import HandS.FStr
import HandS.Strs
import HandS.Flow
import KE.DatumOrd
import PyProof.SumAny
import PyProof.TwoTypesSub
import HandS.Head0
import HandS.Head1
import HandS.Head2
import HandS.HeadHook1
import HandS.HeadHook2
import PySem.Challenge.RW_latticeshapes_k26_whole_large_polygons_c
set_option Elab.async false
set_option linter.all false
set_option maxRecDepth 100000
/-! PyI 1: data, memory, the small language IE, IS and what it means (den). -/
namespace PyI
open PySem

/-- data that is not written any more -/
inductive D where
  | non | bl (b : Bool) | int (i : Int) | str (x : Str)
  | tup (xs : List D) | lst (xs : List D) | frl (xs : List D)
  | emp
  | ins (c : Nat) (fs : List D)
  | cls (c : Nat)
  deriving Inhabited

/-- what a name holds: data, or a cell -/
inductive Val where
  | d (x : D) | rf (n : Nat)
  deriving Inhabited

inductive Cell where
  | lst (xs : List D) | frz (xs : List D) | tup (xs : List D) | ins (c : Nat) (fs : List (Nat × D)) | gone
  deriving Inhabited

abbrev Mem := List Cell
abbrev Env := List (Option Val)

/-- an exception: the class, the fields -/
structure Xn where
  c : Nat
  fs : List D

inductive R (α : Type) where
  | ok (a : α) (M : Mem) | ex (x : Xn) (M : Mem)
inductive Fl where
  | nx (env : Env) (M : Mem) | rt (v : Val) (M : Mem) | bk (env : Env) (M : Mem) | ct (env : Env) (M : Mem) | ex (x : Xn) (env : Env) (M : Mem)

abbrev Orc := Nat → List Val → Mem → Option (R Val)

inductive Ty where
  | int | bool | str | tuple | list | dict
  | own (d : Nat) (cs : List Nat)
  deriving DecidableEq
inductive Op where
  | add | sub | mul | fdiv | mod | pow | neg
  | eq | ne | lt | le | gt | ge | is | isnot
  | ix | tup | lst | emp
  | len | abs | max2 | min2 | int | sum
  | isi (t : List Ty)
  | isin | notin
  | repr | fmt
  | slice (lo hi : Bool) | rev
  | tuple | minl | maxl | index | rslice (lo hi : Bool)
  deriving DecidableEq

/-- does the result hold the arguments themselves? -/
def Op.keeps : Op → Bool
  | .tup | .lst => true
  | _ => false

inductive Tg where
  | nm (i : Nat) | tp (ts : List Tg)

/-- the arguments of a call, as the def takes them: those given, then defaults; or one by one -/
inductive Pl where
  | dfl (ds : List D) | by (ps : List (Nat ⊕ D))

mutual
inductive IE where
  | cst (x : D)
  | var (i : Nat)
  | op (o : Op) (es : IEs)
  | mk (o : Op) (es : IEs)
  | and (a b : IE) | or (a b : IE) | not (a : IE) | ife (c a b : IE)
  | call (f : Nat) (es : IEs)
  | callp (f : Nat) (pl : Pl) (es : IEs)
  | fld (f : Nat) (cs : List (Nat × Nat)) (e : IE)
  | prop (tbl : List (Nat × Nat)) (e : IE)
  | mth (tbl : List (Nat × Nat)) (pl : Pl) (o : IE) (es : IEs)
  | new (c : Nat) (fl : List Nat) (f : Nat) (pl : Pl) (es : IEs)
  | newv (i : Nat) (c : Nat) (fl : List Nat) (f : Nat) (pl : Pl) (es : IEs)
  | eqo (neg : Bool) (tbl : List (Nat × Nat)) (up : List (Nat × Nat)) (a b : IE)
  | eql (neg : Bool) (tbl : List (Nat × Nat)) (a b : IE)
  | rpr (tbl : List (Nat × Nat)) (e : IE)
  | anint (e : IE)
  | fstr (es : IEs)
  | chain (o o' : Op) (a b c : IE)
  | idx (o e : IE)
  | mkt (e : IE)
  | lc (tg : Tg) (own : List Nat) (it : II) (cs : IEs) (e : IE)
inductive IEs where
  | nil | cons (e : IE) (es : IEs)
inductive II where
  | seq (e : IE) | range (es : IEs) | enum (es : IEs) | zip (es : IEs)
end

mutual
inductive IS where
  | set (tg : Tg) (e : IE)
  | par (is : List Nat) (es : IEs)
  | setix (o i e : IE)
  | drop (e : IE)
  | ret (e : IE) | retN | pass | brk | cont
  | ife (c : IE) (a b : ISs)
  | whl (c : IE) (b : ISs)
  | for (tg : Tg) (it : II) (b : ISs)
  | raise (c : Nat) (es : IEs)
  | tryn (b : ISs) (hs : IHs)
  | setf (f : Nat) (o e : IE)
  | setfs (i : Nat) (fs : List Nat) (e : IE)
  | app (o e : IE)
  | asg2 (i j : Nat) (e : IE)
  | bad
inductive ISs where
  | nil | cons (s : IS) (ss : ISs)
inductive IHs where
  | nil | cons (cs : List Nat) (h : ISs) (r : IHs)
end

/-! ### small parts -/
def bnd {α β : Type} (m : Option (R α)) (k : α → Mem → Option (R β)) : Option (R β) :=
  match m with
  | none => none
  | some (.ex x M) => some (.ex x M)
  | some (.ok a M) => k a M
@[simp] theorem bnd_none {α β : Type} (k : α → Mem → Option (R β)) : bnd none k = none := rfl
@[simp] theorem bnd_ex {α β : Type} (x : Xn) (M : Mem) (k : α → Mem → Option (R β)) : bnd (some (.ex x M)) k = some (.ex x M) := rfl
@[simp] theorem bnd_ok {α β : Type} (a : α) (M : Mem) (k : α → Mem → Option (R β)) : bnd (some (.ok a M)) k = k a M := rfl
theorem bnd_eq {α β : Type} {m : Option (R α)} {k : α → Mem → Option (R β)} {r : R β} (h : bnd m k = some r) :
    (∃ a M, m = some (.ok a M) ∧ k a M = some r) ∨ ∃ x M, m = some (.ex x M) ∧ r = .ex x M := by
  unfold bnd at h
  split at h
  · cases h
  · rename_i x M
    exact .inr ⟨x, M, rfl, (Option.some.inj h).symm⟩
  · rename_i a M
    exact .inl ⟨a, M, rfl, h⟩

def bndS {α : Type} (m : Option (R α)) (env : Env) (k : α → Mem → Option Fl) : Option Fl :=
  match m with
  | none => none
  | some (.ex x M) => some (.ex x env M)
  | some (.ok a M) => k a M
@[simp] theorem bndS_none {α : Type} (env : Env) (k : α → Mem → Option Fl) : bndS none env k = none := rfl
@[simp] theorem bndS_ex {α : Type} (x : Xn) (M : Mem) (env : Env) (k : α → Mem → Option Fl) : bndS (some (.ex x M)) env k = some (.ex x env M) := rfl
@[simp] theorem bndS_ok {α : Type} (a : α) (M : Mem) (env : Env) (k : α → Mem → Option Fl) : bndS (some (.ok a M)) env k = k a M := rfl
theorem bndS_eq {α : Type} {m : Option (R α)} {env : Env} {k : α → Mem → Option Fl} {r : Fl} (h : bndS m env k = some r) :
    (∃ a M, m = some (.ok a M) ∧ k a M = some r) ∨ ∃ x M, m = some (.ex x M) ∧ r = .ex x env M := by
  unfold bndS at h
  split at h
  · cases h
  · rename_i x M
    exact .inr ⟨x, M, rfl, (Option.some.inj h).symm⟩
  · rename_i a M
    exact .inl ⟨a, M, rfl, h⟩

def seqF (m : Option Fl) (k : Env → Mem → Option Fl) : Option Fl :=
  match m with
  | some (.nx env M) => k env M
  | r => r
@[simp] theorem seqF_none (k : Env → Mem → Option Fl) : seqF none k = none := rfl
@[simp] theorem seqF_nx (env : Env) (M : Mem) (k : Env → Mem → Option Fl) : seqF (some (.nx env M)) k = k env M := rfl
@[simp] theorem seqF_rt (v : Val) (M : Mem) (k : Env → Mem → Option Fl) : seqF (some (.rt v M)) k = some (.rt v M) := rfl
@[simp] theorem seqF_bk (env : Env) (M : Mem) (k : Env → Mem → Option Fl) : seqF (some (.bk env M)) k = some (.bk env M) := rfl
@[simp] theorem seqF_ct (env : Env) (M : Mem) (k : Env → Mem → Option Fl) : seqF (some (.ct env M)) k = some (.ct env M) := rfl
@[simp] theorem seqF_ex (x : Xn) (env : Env) (M : Mem) (k : Env → Mem → Option Fl) : seqF (some (.ex x env M)) k = some (.ex x env M) := rfl

/-- a truth -/
def asB (v : Val) : Option Bool :=
  match v with
  | .d (.bl b) => some b
  | _ => none
@[simp] theorem asB_bl (b : Bool) : asB (.d (.bl b)) = some b := rfl
theorem asB_eq {v : Val} {b : Bool} (h : asB v = some b) : v = .d (.bl b) := by
  unfold asB at h
  split at h
  · rw [Option.some.inj h]
  · cases h

/-- to read -/
def Val.see (M : Mem) : Val → Option D
  | .d x => some x
  | .rf n => match M[n]? with
    | some (.lst xs) => some (.lst xs)
    | some (.frz xs) => some (.lst xs)
    | some (.tup xs) => some (.tup xs)
    | _ => none
@[simp] theorem see_d (M : Mem) (x : D) : Val.see M (.d x) = some x := rfl
def sees (M : Mem) : List Val → Option (List D)
  | [] => some []
  | v :: vs => match v.see M, sees M vs with
    | some x, some xs => some (x :: xs)
    | _, _ => none
@[simp] theorem sees_nil (M : Mem) : sees M [] = some [] := rfl
@[simp] theorem sees_d (M : Mem) (x : D) (vs : List Val) : sees M (.d x :: vs) = (sees M vs).map (x :: ·) := by
  show (match some x, sees M vs with | some x, some xs => some (x :: xs) | _, _ => none) = _
  cases sees M vs <;> rfl
/-- to keep: what is kept is written no more -/
def Val.hold (M : Mem) : Val → Option (D × Mem)
  | .d x => some (x, M)
  | .rf n => match M[n]? with
    | some (.lst xs) => some (.lst xs, M.set n (.frz xs))
    | some (.frz xs) => some (.lst xs, M)
    | some (.tup xs) => some (.tup xs, M)
    | _ => none
@[simp] theorem hold_d (M : Mem) (x : D) : Val.hold M (.d x) = some (x, M) := rfl
def holds (M : Mem) : List Val → Option (List D × Mem)
  | [] => some ([], M)
  | v :: vs => match v.hold M with
    | some (x, M1) => match holds M1 vs with
      | some (xs, M2) => some (x :: xs, M2)
      | none => none
    | none => none
@[simp] theorem holds_nil (M : Mem) : holds M [] = some ([], M) := rfl
@[simp] theorem holds_d (M : Mem) (x : D) (vs : List Val) : holds M (.d x :: vs) = (holds M vs).map fun p => (x :: p.1, p.2) := by
  show (match holds M vs with | some (xs, M2) => some (x :: xs, M2) | none => none) = _
  cases holds M vs <;> rfl

/-! ### operations on data -/
def mulOk (i j : Int) : Bool := decide (-(2 ^ 64) < i) && decide (i < 2 ^ 64) || (decide (-(2 ^ 64) < j) && decide (j < 2 ^ 64)) || decide (i.natAbs.log2 + j.natAbs.log2 < 1000000)
def divOk (j : Int) : Bool := decide (0 < j) && decide (j.natAbs.log2 < 9000)
def divNk (j : Int) : Bool := !decide (j = 0) && decide (j.natAbs.log2 < 9000)
def powOk (i j : Int) : Bool := decide (0 ≤ j) && decide (j ≤ 1000000) && decide (i.natAbs < 2 ^ 64)

mutual
/-- data as the library's data -/
def D.toP : D → Option PyData
  | .non => some .none
  | .bl b => some (.bool b)
  | .int i => some (.int i)
  | .str x => some (.str x)
  | .tup xs => (toPs xs).map .tuple
  | .lst xs => (toPs xs).map .list
  | .frl xs => (toPs xs).map .list
  | .emp => none
  | .ins _ _ => none
  | .cls _ => none
def toPs : List D → Option (List PyData)
  | [] => some []
  | x :: xs => match x.toP, toPs xs with
    | some d, some ds => some (d :: ds)
    | _, _ => none
end
/-- == of plain data -/
def eqD (x y : D) : Option Bool :=
  match x.toP, y.toP with
  | some d, some e => if SeqAt.shaped d = true ∧ SeqAt.shaped e = true then some (PyData.eqv d e) else none
  | _, _ => none
/-- is, for None and the bools -/
def isD : D → D → Option Bool
  | .non, .non => some true
  | .bl a, .bl b => some (a == b)
  | .bl _, .non => some false
  | .int _, .bl _ => some false
  | .int _, .non => some false
  | .str _, .non => some false
  | .tup _, .non => some false
  | .lst _, .non => some false
  | _, _ => none

def tyD : Ty → D → Option Bool
  | .int, .int _ => some true
  | .int, .bl _ => some true
  | .bool, .bl _ => some true
  | .str, .str _ => some true
  | .tuple, .tup _ => some true
  | .list, .lst _ => some true
  | .list, .frl _ => some true
  | .dict, .emp => some true
  | .own _ cs, .ins c _ => some (cs.contains c)
  | .own _ _, .cls _ => none
  | .own _ _, _ => some false
  | _, .ins .. => some false
  | _, .cls _ => none
  | _, _ => some false
def tyAny : List Ty → D → Option Bool
  | [], _ => some false
  | t :: ts, x => match tyD t x with
    | some true => some true
    | some false => tyAny ts x
    | none => none

def cmpI (f : Int → Int → Bool) : List D → Option D
  | [.int i, .int j] => some (.bl (f i j))
  | _ => none
def items : D → Option (List D)
  | .lst xs => some xs
  | .tup xs => some xs
  | .frl xs => some xs
  | _ => none

def intsOf : List D → Option (List Int)
  | [] => some []
  | .int i :: xs => (intsOf xs).map (i :: ·)
  | _ :: _ => none
/-- x in ys: in a list any data, in a tuple flat data -/
def flatD : D → Bool
  | .non | .bl _ | .int _ | .str _ => true
  | _ => false
def inD : D → D → Option Bool
  | x, .lst ys => match x.toP, toPs ys with
    | some d, some ds => if SeqAt.shaped d = true ∧ SeqAt.shaped (.list ds) = true then some (ds.any fun z => PyData.eqv z d) else none
    | _, _ => none
  | x, .tup ys => if flatD x = true ∧ ys.all flatD = true then match x.toP, toPs ys with
      | some d, some ds => some (ds.any fun z => PyData.eqv z d)
      | _, _ => none
    else none
  | _, _ => none
/-- as repr writes it -/
def isSq : D → Bool
  | .tup _ | .lst _ | .frl _ => true
  | _ => false
def showD (x : D) : Option Str := match x.toP with
  | some d => if isSq x = true ∧ d.hasDict = false ∧ d.showable = true ∧ d.depth ≤ 64 ∧ d.shown.length ≤ sizeLine then some d.shown else none
  | none => none
/-- as an f-string writes it -/
def fmtD : D → Option Str
  | .str y => if y.length ≤ sizeLine then some y else none
  | .tup xs => showD (.tup xs)
  | .lst xs => showD (.lst xs)
  | .int i => if i.natAbs.log2 < 1920 then some (toString i) else none
  | _ => none
def boundD : Bool → List D → Option (Option Int × List D)
  | false, xs => some (none, xs)
  | true, .int i :: xs => some (some i, xs)
  | true, _ => none
def cutD (xs : List D) (lo hi : Option Int) : List D := (xs.drop (HT.sIx xs.length 0 lo)).take (HT.sIx xs.length xs.length hi - HT.sIx xs.length 0 lo)
def sliceD (x : D) (lo hi : Option Int) : Option D := match x with
  | .lst xs => some (.lst (cutD xs lo hi))
  | .tup xs => some (.tup (cutD xs lo hi))
  | _ => none
/-! ### rows of ints or of points: the least, the greatest; places; backwards -/
def ltP (p q : Int × Int) : Bool := if p.1 = q.1 then decide (p.2 < q.2) else decide (p.1 < q.1)
def b01 (b : Bool) : Int := if b = true then 1 else 0
def blsOf : List D → Option (List Bool)
  | [] => some []
  | .bl b :: xs => (blsOf xs).map (b :: ·)
  | _ :: _ => none
def ptsOf : List D → Option (List (Int × Int))
  | [] => some []
  | .tup [.int a, .int b] :: xs => (ptsOf xs).map ((a, b) :: ·)
  | _ :: _ => none
def minI (n : Int) (ns : List Int) : Int := ns.foldl (fun a y => if decide (y < a) = true then y else a) n
def maxI (n : Int) (ns : List Int) : Int := ns.foldl (fun a y => if decide (a < y) = true then y else a) n
def minP (p : Int × Int) (ps : List (Int × Int)) : Int × Int := ps.foldl (fun a y => if ltP y a = true then y else a) p
def maxP (p : Int × Int) (ps : List (Int × Int)) : Int × Int := ps.foldl (fun a y => if ltP a y = true then y else a) p
def ptD (p : Int × Int) : D := .tup [.int p.1, .int p.2]
def bestD (fi : Int → List Int → Int) (fp : Int × Int → List (Int × Int) → Int × Int) (xs : List D) : Option D :=
  match intsOf xs with
  | some (n :: ns) => some (.int (fi n ns))
  | _ => match ptsOf xs with
    | some (p :: ps) => some (ptD (fp p ps))
    | _ => none
def indexD (xs : List D) (y : D) : Option D :=
  match toPs xs, y.toP with
  | some ds, some d => if SeqAt.shaped (.list ds) = true ∧ SeqAt.shaped d = true then (ds.findIdx? fun z => PyData.eqv z d).map fun (j : Nat) => .int j else none
  | _, _ => none
def rpos (n : Nat) (lo hi : Option Int) : List Nat :=
  (List.range (Builtin.Slice.slicePlaces (Builtin.Slice.sliceAdjust lo hi (-1) n).1 (Builtin.Slice.sliceAdjust lo hi (-1) n).2 (-1))).map fun (m : Nat) => ((Builtin.Slice.sliceAdjust lo hi (-1) n).1 + (m : Int) * (-1)).toNat
def rcut {α : Type} (xs : List α) (lo hi : Option Int) : List α := (rpos xs.length lo hi).filterMap (xs[·]?)
def rsliceD (x : D) (lo hi : Option Int) : Option D := match x with
  | .tup xs => some (.tup (rcut xs lo hi))
  | _ => none
noncomputable def opD : Op → List D → Option D
  | .add, [.int i, .int j] => some (.int (i + j))
  | .add, [.lst xs, .lst ys] => if xs.length + ys.length ≤ sizeLine then some (.lst (xs ++ ys)) else none
  | .add, [.tup xs, .tup ys] => if xs.length + ys.length ≤ sizeLine then some (.tup (xs ++ ys)) else none
  | .add, [.str a, .str b] => if a.length + b.length ≤ sizeLine then some (.str (a ++ b)) else none
  | .sub, [.int i, .int j] => some (.int (i - j))
  | .mul, [.int i, .int j] => if mulOk i j then some (.int (i * j)) else none
  | .mul, [.lst xs, .int k] => @ite _ (-(2 ^ 63) ≤ k ∧ k < 2 ^ 63 ∧ xs.length * k.toNat ≤ sizeLine) (Classical.propDecidable _) (some (.lst (List.replicate k.toNat xs).flatten)) none
  | .fdiv, [.int i, .int j] => if divOk j then some (.int (i / j)) else if divNk j then some (.int (i.fdiv j)) else none
  | .mod, [.int i, .int j] => if 0 < j then some (.int (i % j)) else if j ≠ 0 then some (.int (i.fmod j)) else none
  | .pow, [.int i, .int j] => if powOk i j then some (.int (i ^ j.toNat)) else none
  | .neg, [.int i] => some (.int (-i))
  | .eq, [x, y] => (eqD x y).map .bl
  | .ne, [x, y] => (eqD x y).map fun b => .bl (!b)
  | .lt, [.int i, .int j] => some (.bl (decide (i < j)))
  | .lt, [.tup [.int a, .int b], .tup [.int c, .int d]] => some (.bl (ltP (a, b) (c, d)))
  | .le, [.int i, .int j] => some (.bl (decide (i ≤ j)))
  | .gt, [.int i, .int j] => some (.bl (decide (j < i)))
  | .gt, [.tup [.int a, .int b], .tup [.int c, .int d]] => some (.bl (ltP (c, d) (a, b)))
  | .ge, [.int i, .int j] => some (.bl (decide (j ≤ i)))
  | .is, [x, y] => (isD x y).map .bl
  | .isnot, [x, y] => (isD x y).map fun b => .bl (!b)
  | .ix, [x, .int i] => (items x).bind fun xs => L2.atI xs i
  | .tup, xs => if xs.length ≤ sizeLine then some (.tup xs) else none
  | .lst, xs => if xs.length ≤ sizeLine then some (.lst xs) else none
  | .emp, [] => some .emp
  | .len, [x] => (items x).map fun xs => .int xs.length
  | .abs, [.int i] => some (.int (if i < 0 then -i else i))
  | .max2, [.int i, .int j] => some (.int (if j > i then j else i))
  | .min2, [.int i, .int j] => some (.int (if j < i then j else i))
  | .int, [.int i] => some (.int i)
  | .int, [.bl b] => some (.int (if b then 1 else 0))
  | .sum, [.lst xs] => match intsOf xs with
    | some ns => some (.int ns.sum)
    | none => (blsOf xs).map fun bs => .int (bs.map b01).sum
  | .isi ts, [x] => (tyAny ts x).map .bl
  | .isin, [x, y] => (inD x y).map .bl
  | .notin, [x, y] => (inD x y).map fun b => .bl (!b)
  | .repr, [.int i] => if i.natAbs.log2 < 1920 then some (.str (toString i)) else none
  | .repr, [x] => (showD x).map .str
  | .fmt, [x] => (fmtD x).map .str
  | .slice lo hi, x :: xs => (boundD lo xs).bind fun p => (boundD hi p.2).bind fun q => if q.2.isEmpty then sliceD x p.1 q.1 else none
  | .rev, [.lst xs] => some (.lst xs.reverse)
  | .tuple, [.lst xs] => some (.tup xs)
  | .tuple, [.tup xs] => some (.tup xs)
  | .tuple, [.frl xs] => some (.tup xs)
  | .minl, [x] => (items x).bind (bestD minI minP)
  | .maxl, [x] => (items x).bind (bestD maxI maxP)
  | .index, [.tup xs, y] => indexD xs y
  | .rslice lo hi, x :: xs => (boundD lo xs).bind fun p => (boundD hi p.2).bind fun q => if q.2.isEmpty then rsliceD x p.1 q.1 else none
  | _, _ => none

/-- an operation on what the arguments evaluated to -/
noncomputable def runOp (o : Op) (vs : List Val) (M : Mem) : Option (R Val) :=
  if o.keeps then match holds M vs with
    | some (xs, M1) => (opD o xs).map fun x => .ok (.d x) M1
    | none => none
  else match sees M vs with
    | some xs => (opD o xs).map fun x => .ok (.d x) M
    | none => none
/-- the same, its list a cell -/
noncomputable def runMk (o : Op) (vs : List Val) (M : Mem) : Option (R Val) :=
  match holds M vs with
  | some (xs, M1) => match opD o xs with
    | some (.lst ys) => some (.ok (.rf M1.length) (M1 ++ [.lst ys]))
    | _ => none
  | none => none

/-! ### fields, arguments, instances -/
/-- what the attribute f holds; cs: at which place of an instance of which class it stands -/
def getF (f : Nat) (cs : List (Nat × Nat)) (v : Val) (M : Mem) : Option D :=
  match v with
  | .d (.ins c fs) => (cs.lookup c).bind fun i => fs[i]?
  | .rf n => match M[n]? with
    | some (.ins c fs) => if (cs.lookup c).isSome then fs.lookup f else none
    | _ => none
  | _ => none
/-- what raises nothing -/
def quiet {α : Type} : Option (R α) → Option (R α)
  | some (.ok a M) => some (.ok a M)
  | _ => none
def clsOf (v : Val) (M : Mem) : Option Nat :=
  match v with
  | .d (.ins c _) => some c
  | .rf n => match M[n]? with
    | some (.ins c _) => some c
    | _ => none
  | _ => none
def byV (vs : List Val) : List (Nat ⊕ D) → Option (List Val)
  | [] => some []
  | .inl i :: r => match vs[i]?, byV vs r with
    | some v, some ws => some (v :: ws)
    | _, _ => none
  | .inr d :: r => (byV vs r).map (.d d :: ·)
def Pl.run (pl : Pl) (vs : List Val) : Option (List Val) :=
  match pl with
  | .dfl ds => some (vs ++ ds.map .d)
  | .by ps => byV vs ps
/-- the attribute f is x from now on -/
def putF : List (Nat × D) → Nat → D → List (Nat × D)
  | [], f, x => [(f, x)]
  | (g, y) :: r, f, x => if g = f then (f, x) :: r else (g, y) :: putF r f x
/-- an instance, its __init__ called, then written no more -/
def endNew (c : Nat) (fl : List Nat) (n : Nat) : Option (R Val) → Option (R Val)
  | some (.ok (.d .non) M2) => match M2[n]? with
    | some (.ins d fs) => if d = c ∧ fs.map (·.1) = fl then some (.ok (.d (.ins c (fs.map (·.2)))) (M2.take n)) else none
    | _ => none
  | some (.ex x M2) => some (.ex x (M2.take n))
  | _ => none
/-- which __eq__ is asked, and whether the right side is the one that answers -/
def isTupV : Val → Bool
  | .d (.tup _) => true
  | _ => false
def eqWho (tbl up : List (Nat × Nat)) (a b : Option Nat) (t : Bool) : Option (Bool × Nat) :=
  match a, b with
  | some c, some d => if (c, d) ∈ up then (tbl.lookup d).map fun g => (true, g) else (tbl.lookup c).map fun g => (false, g)
  | some c, none => if t = true then (tbl.lookup c).map fun g => (false, g) else none
  | none, _ => none
/-- is the value no instance? -/
def plainV (v : Val) (M : Mem) : Bool := (clsOf v M).isNone
def setF (f : Nat) (o v : Val) (M : Mem) : Option Mem :=
  match o, v.hold M with
  | .rf n, some (x, M1) => match M1[n]? with
    | some (.ins c fs) => if fs.length < 900 then some (M1.set n (.ins c (putF fs f x))) else none
    | _ => none
  | _, _ => none
def putFs : List (Nat × D) → List Nat → List D → Option (List (Nat × D))
  | fs, [], [] => some fs
  | fs, f :: r, x :: xs => putFs (putF fs f x) r xs
  | _, _, _ => none
def setFs (fl : List Nat) (o v : Val) (M : Mem) : Option Mem :=
  match o, v with
  | .rf n, .d (.tup xs) => match M[n]? with
    | some (.ins c fs) => if fs.length + fl.length < 900 then (putFs fs fl xs).map fun gs => M.set n (.ins c gs) else none
    | _ => none
  | _, _ => none
/-- a list that is written -/
def isLst (o : Val) (M : Mem) : Bool :=
  match o with
  | .rf n => match M[n]? with
    | some (.lst _) => true
    | _ => false
  | _ => false
def appV (o v : Val) (M : Mem) : Option Mem :=
  match o, v.hold M with
  | .rf n, some (x, M1) => match M1[n]? with
    | some (.lst xs) => if xs.length < sizeLine then some (M1.set n (.lst (xs ++ [x]))) else none
    | _ => none
  | _, _ => none

/-! ### targets -/
mutual
def Tg.bind : Tg → D → Env → Option Env
  | .nm i, x, env => some (env.set i (some (.d x)))
  | .tp ts, .tup xs, env => bindL ts xs env
  | .tp ts, .lst xs, env => bindL ts xs env
  | .tp _, _, _ => none
def bindL : List Tg → List D → Env → Option Env
  | [], [], env => some env
  | t :: ts, x :: xs, env => match t.bind x env with
    | some env1 => bindL ts xs env1
    | none => none
  | _, _, _ => none
end

def wipeE (env : Env) : List Nat → Env
  | [] => env
  | v :: vs => (wipeE env vs).set v none

/-- a turn's end -/
def goOn (r : Option Fl) (k : Env → Mem → Option Fl) : Option Fl :=
  match r with
  | some (.nx env M) => k env M
  | some (.ct env M) => k env M
  | some (.bk env M) => some (.nx env M)
  | r => r
@[simp] theorem goOn_none (k : Env → Mem → Option Fl) : goOn none k = none := rfl
@[simp] theorem goOn_nx (env : Env) (M : Mem) (k : Env → Mem → Option Fl) : goOn (some (.nx env M)) k = k env M := rfl
@[simp] theorem goOn_ct (env : Env) (M : Mem) (k : Env → Mem → Option Fl) : goOn (some (.ct env M)) k = k env M := rfl
@[simp] theorem goOn_bk (env : Env) (M : Mem) (k : Env → Mem → Option Fl) : goOn (some (.bk env M)) k = some (.nx env M) := rfl
@[simp] theorem goOn_rt (v : Val) (M : Mem) (k : Env → Mem → Option Fl) : goOn (some (.rt v M)) k = some (.rt v M) := rfl
@[simp] theorem goOn_ex (x : Xn) (env : Env) (M : Mem) (k : Env → Mem → Option Fl) : goOn (some (.ex x env M)) k = some (.ex x env M) := rfl
/-- a loop over items -/
def forL (tg : Tg) (b : Env → Mem → Option Fl) : List D → Env → Mem → Option Fl
  | [], env, M => some (.nx env M)
  | x :: xs, env, M => match tg.bind x env with
    | none => none
    | some env1 => goOn (b env1 M) fun env2 M2 => forL tg b xs env2 M2
/-- a comprehension over items -/
def lcL (tg : Tg) (env : Env) (c : Env → Mem → Option (R Bool)) (e : Env → Mem → Option (R D)) : List D → List D → Mem → Option (R (List D))
  | [], acc, M => some (.ok acc M)
  | x :: xs, acc, M => match tg.bind x env with
    | none => none
    | some env1 => match c env1 M with
      | some (.ok false M1) => lcL tg env c e xs acc M1
      | some (.ok true M1) => match e env1 M1 with
        | some (.ok y M2) => if acc.length < sizeLine then lcL tg env c e xs (acc ++ [y]) M2 else none
        | _ => none
      | _ => none

def whlF (c : Env → Mem → Option (R Bool)) (b : Env → Mem → Option Fl) : Nat → Env → Mem → Option Fl
  | 0, _, _ => none
  | n + 1, env, M => bndS (c env M) env fun t M1 => if t = true then goOn (b env M1) (fun env2 M2 => whlF c b n env2 M2)
    else some (.nx env M1)

theorem whlF_more {c : Env → Mem → Option (R Bool)} {b : Env → Mem → Option Fl} : ∀ {n : Nat} {env : Env} {M : Mem} {r : Fl}, whlF c b n env M = some r → whlF c b (n + 1) env M = some r
  | 0, _, _, _, h => by cases h
  | n + 1, env, M, r, h => by
    unfold whlF at h ⊢
    rcases bndS_eq h with ⟨t, M1, e, h⟩ | ⟨x, M1, e, h⟩
    · rw [e, bndS_ok]
      cases t with
      | false => exact h
      | true =>
        rw [if_pos rfl] at h ⊢
        cases e2 : b env M1 with
        | none => rw [e2] at h; exact h
        | some f =>
          rw [e2] at h
          cases f with
          | nx e3 m3 => exact whlF_more h
          | ct e3 m3 => exact whlF_more h
          | bk e3 m3 => exact h
          | rt v m3 => exact h
          | ex x e3 m3 => exact h
    · rw [e, bndS_ex, h]
theorem whlF_le {c : Env → Mem → Option (R Bool)} {b : Env → Mem → Option Fl} {n m : Nat} {env : Env} {M : Mem} {r : Fl} (h : whlF c b n env M = some r) (l : n ≤ m) : whlF c b m env M = some r := by
  induction l with
  | refl => exact h
  | step _ ih => exact whlF_more ih
/-- while, to its end (where it has one) -/
noncomputable def whl (c : Env → Mem → Option (R Bool)) (b : Env → Mem → Option Fl) (env : Env) (M : Mem) : Option Fl :=
  open Classical in if h : ∃ r, ∃ n, whlF c b n env M = some r then some (choose h) else none
theorem whl_of {c : Env → Mem → Option (R Bool)} {b : Env → Mem → Option Fl} {n : Nat} {env : Env} {M : Mem} {r : Fl} (h : whlF c b n env M = some r) : whl c b env M = some r := by
  have hx : ∃ r, ∃ n, whlF c b n env M = some r := ⟨r, n, h⟩
  unfold whl
  rw [dif_pos hx]
  obtain ⟨m, hm⟩ := Classical.choose_spec hx
  have h1 := whlF_le h (Nat.le_max_left n m)
  have h2 := whlF_le hm (Nat.le_max_right n m)
  rw [h1] at h2
  exact h2.symm
theorem whl_to {c : Env → Mem → Option (R Bool)} {b : Env → Mem → Option Fl} {env : Env} {M : Mem} {r : Fl} (h : whl c b env M = some r) : ∃ n, whlF c b n env M = some r := by
  unfold whl at h
  split at h
  · rename_i hx
    have e := Option.some.inj h
    have z := Classical.choose_spec hx
    rw [e] at z
    exact z
  · cases h
/-- one turn -/
theorem whl_eq (c : Env → Mem → Option (R Bool)) (b : Env → Mem → Option Fl) (env : Env) (M : Mem) :
    whl c b env M = bndS (c env M) env fun t M1 => if t = true then goOn (b env M1) (whl c b)
    else some (.nx env M1) := by
  have key : ∀ r, whl c b env M = some r ↔ (bndS (c env M) env fun t M1 => if t = true then goOn (b env M1) (whl c b)
    else some (.nx env M1)) = some r := by
    intro r
    constructor
    · intro h
      obtain ⟨n, h⟩ := whl_to h
      cases n with
      | zero => cases h
      | succ n =>
        unfold whlF at h
        rcases bndS_eq h with ⟨t, M1, e, h⟩ | ⟨x, M1, e, h⟩
        · rw [e, bndS_ok]
          cases t with
          | false => exact h
          | true =>
            rw [if_pos rfl] at h ⊢
            cases e2 : b env M1 with
            | none => rw [e2] at h; exact h
            | some f =>
              rw [e2] at h
              cases f with
              | nx e3 m3 => exact whl_of h
              | ct e3 m3 => exact whl_of h
              | bk e3 m3 => exact h
              | rt v m3 => exact h
              | ex x e3 m3 => exact h
        · rw [e, bndS_ex, h]
    · intro h
      rcases bndS_eq h with ⟨t, M1, e, h⟩ | ⟨x, M1, e, h⟩
      · cases t with
        | false => exact whl_of (n := 1) (by unfold whlF; rw [e, bndS_ok]; exact h)
        | true =>
          rw [if_pos rfl] at h
          cases e2 : b env M1 with
          | none => rw [e2] at h; cases h
          | some f =>
            rw [e2] at h
            cases f with
            | nx e3 m3 =>
              obtain ⟨n, hn⟩ := whl_to h
              exact whl_of (n := n + 1) (by unfold whlF; rw [e, bndS_ok, if_pos rfl, e2]; exact hn)
            | ct e3 m3 =>
              obtain ⟨n, hn⟩ := whl_to h
              exact whl_of (n := n + 1) (by unfold whlF; rw [e, bndS_ok, if_pos rfl, e2]; exact hn)
            | bk e3 m3 => exact whl_of (n := 1) (by unfold whlF; rw [e, bndS_ok, if_pos rfl, e2]; exact h)
            | rt v m3 => exact whl_of (n := 1) (by unfold whlF; rw [e, bndS_ok, if_pos rfl, e2]; exact h)
            | ex x e3 m3 => exact whl_of (n := 1) (by unfold whlF; rw [e, bndS_ok, if_pos rfl, e2]; exact h)
      · exact whl_of (n := 1) (by unfold whlF; rw [e, bndS_ex, h])
  cases h1 : whl c b env M with
  | some r => exact ((key r).mp h1).symm
  | none =>
    cases h2 : (bndS (c env M) env fun t M1 => if t = true then goOn (b env M1) (whl c b)
    else some (.nx env M1)) with
    | none => rfl
    | some r => rw [(key r).mpr h2] at h1; cases h1

/-! ### what is walked -/
def rngL (lo hi : Int) : List D := (List.range (hi - lo).toNat).map fun (i : Nat) => .int (lo + i)
def rngOk (i : Int) : Bool := decide (-(2 ^ 62) ≤ i) && decide (i < 2 ^ 62)
def runRange (vs : List Val) (M : Mem) : Option (R (List D)) :=
  match vs with
  | [.d (.int j)] => if rngOk j then some (.ok (rngL 0 j) M) else none
  | [.d (.int i), .d (.int j)] => if rngOk i && rngOk j then some (.ok (rngL i j) M) else none
  | _ => none
def runSeq (v : Val) (M : Mem) : Option (R (List D)) :=
  match v.hold M with
  | some (.lst xs, M1) => some (.ok xs M1)
  | some (.tup xs, M1) => some (.ok xs M1)
  | some (.frl xs, M1) => some (.ok xs M1)
  | _ => none

/-- the places and the items -/
def enumL : Nat → List D → List D
  | _, [] => []
  | k, x :: xs => .tup [.int (k : Nat), x] :: enumL (k + 1) xs
def zipL : List D → List D → List D
  | x :: xs, y :: ys => .tup [x, y] :: zipL xs ys
  | _, _ => []
def runEnum (vs : List Val) (M : Mem) : Option (R (List D)) :=
  match holds M vs with
  | some ([.lst xs], M1) => some (.ok (enumL 0 xs) M1)
  | some ([.frl xs], M1) => some (.ok (enumL 0 xs) M1)
  | _ => none
def runZip (vs : List Val) (M : Mem) : Option (R (List D)) :=
  match holds M vs with
  | some ([.lst xs, .lst ys], M1) => some (.ok (zipL xs ys) M1)
  | some ([.tup xs, .tup ys], M1) => some (.ok (zipL xs ys) M1)
  | _ => none

def runHold (v : Val) (M : Mem) : Option (R D) :=
  match v.hold M with
  | some (x, M1) => some (.ok x M1)
  | none => none
@[simp] theorem runHold_d (x : D) (M : Mem) : runHold (.d x) M = some (.ok x M) := rfl

/-- instances, pair by pair; their own __eq__ says True -/
def allSame (C : Orc) (tbl : List (Nat × Nat)) : List D → List D → Prop
  | [], [] => True
  | x :: xs, y :: ys => (∃ c fs gs g, x = .ins c fs ∧ y = .ins c gs ∧ tbl.lookup c = some g ∧ C g [.d x, .d y] [] = some (.ok (.d (.bl true)) [])) ∧ allSame C tbl xs ys
  | _, _ => False
open Classical in
noncomputable def runEql (C : Orc) (tbl : List (Nat × Nat)) (neg : Bool) (v w : Val) (M : Mem) : Option (R Val) :=
  match v, w with
  | .d (.lst xs), .d (.lst ys) => if allSame C tbl xs ys then some (.ok (.d (.bl (!neg))) M) else none
  | _, _ => none
/-- a tuple that is a cell; to make one -/
def tupAt (v : Val) (M : Mem) : Option (List D) :=
  match v with
  | .rf n => match M[n]? with
    | some (.tup xs) => some xs
    | _ => none
  | _ => none
def runMkt (v : Val) (M : Mem) : Option (R Val) :=
  match tupAt v M with
  | some _ => some (.ok v M)
  | none => match v.see M with
    | some (.lst xs) => some (.ok (.rf M.length) (M ++ [.tup xs]))
    | some (.frl xs) => some (.ok (.rf M.length) (M ++ [.tup xs]))
    | _ => none
/-! ### expressions -/
mutual
noncomputable def denE (C : Orc) : IE → Env → Mem → Option (R Val)
  | .cst x, _, M => some (.ok (.d x) M)
  | .var i, env, M => match env[i]? with
    | some (some v) => some (.ok v M)
    | _ => none
  | .op o es, env, M => bnd (denEs C es env M) fun vs M1 => runOp o vs M1
  | .mk o es, env, M => bnd (denEs C es env M) fun vs M1 => runMk o vs M1
  | .and a b, env, M => bnd (denE C a env M) fun v M1 => match asB v with
    | some true => bnd (denE C b env M1) fun w M2 => match asB w with
      | some c => some (.ok (.d (.bl c)) M2)
      | none => none
    | some false => some (.ok (.d (.bl false)) M1)
    | none => none
  | .or a b, env, M => bnd (denE C a env M) fun v M1 => match asB v with
    | some false => bnd (denE C b env M1) fun w M2 => match asB w with
      | some c => some (.ok (.d (.bl c)) M2)
      | none => none
    | some true => some (.ok (.d (.bl true)) M1)
    | none => none
  | .not a, env, M => bnd (denE C a env M) fun v M1 => match asB v with
    | some c => some (.ok (.d (.bl (!c))) M1)
    | none => none
  | .ife c a b, env, M => bnd (denE C c env M) fun v M1 => match asB v with
    | some true => denE C a env M1
    | some false => denE C b env M1
    | none => none
  | .call f es, env, M => bnd (denEs C es env M) fun vs M1 => C f vs M1
  | .callp f pl es, env, M => bnd (denEs C es env M) fun vs M1 => match pl.run vs with
    | some ws => C f ws M1
    | none => none
  | .fld f cs e, env, M => bnd (denE C e env M) fun v M1 => match getF f cs v M1 with
    | some x => some (.ok (.d x) M1)
    | none => none
  | .prop tbl e, env, M => bnd (denE C e env M) fun v M1 => match (clsOf v M1).bind (fun c => tbl.lookup c) with
    | some g => quiet (C g [v] M1)
    | none => none
  | .mth tbl pl o es, env, M => bnd (denE C o env M) fun v M1 => match (clsOf v M1).bind (fun c => tbl.lookup c) with
    | some g => bnd (denEs C es env M1) fun vs M2 => match pl.run vs with
      | some ws => C g (v :: ws) M2
      | none => none
    | none => none
  | .new c fl f pl es, env, M => bnd (denEs C es env M) fun vs M1 => match pl.run vs with
    | some ws => endNew c fl M1.length (C f (.rf M1.length :: ws) (M1 ++ [.ins c []]))
    | none => none
  | .newv i c fl f pl es, env, M => match env[i]? with
    | some (some (.d (.cls d))) => if d = c then bnd (denEs C es env M) fun vs M1 => match pl.run vs with
        | some ws => endNew c fl M1.length (C f (.rf M1.length :: ws) (M1 ++ [.ins c []]))
        | none => none
      else none
    | _ => none
  | .eqo neg tbl up a b, env, M => bnd (denE C a env M) fun v M1 => bnd (denE C b env M1) fun w M2 =>
    match eqWho tbl up (clsOf v M2) (clsOf w M2) (isTupV w) with
    | some (sw, g) => bnd (quiet (C g (if sw then [w, v] else [v, w]) M2)) fun r M3 => match asB r with
      | some c => some (.ok (.d (.bl (if neg then !c else c))) M3)
      | none => none
    | none => if plainV v M2 && plainV w M2 then runOp (if neg then .ne else .eq) [v, w] M2 else none
  | .eql neg tbl a b, env, M => bnd (denE C a env M) fun v M1 => bnd (denE C b env M1) fun w M2 => runEql C tbl neg v w M2
  | .fstr es, env, M => denF C es Str.empty env M
  | .anint e, env, M => bnd (denE C e env M) fun v M1 => match v with
    | .d (.int i) => some (.ok (.d (.int i)) M1)
    | _ => none
  | .rpr tbl e, env, M => bnd (denE C e env M) fun v M1 => match clsOf v M1 with
    | some c => match tbl.lookup c with
      | some g => match quiet (C g [v] M1) with
        | some (.ok (.d (.str y)) M2) => some (.ok (.d (.str y)) M2)
        | _ => none
      | none => none
    | none => runOp .repr [v] M1
  | .chain o o' a b d, env, M => bnd (denE C a env M) fun v M1 => bnd (denE C b env M1) fun w M2 => bnd (runOp o [v, w] M2) fun r M3 => match asB r with
    | some true => bnd (denE C d env M3) fun u M4 => runOp o' [w, u] M4
    | some false => some (.ok (.d (.bl false)) M3)
    | none => none
  | .idx o e, env, M => bnd (denE C o env M) fun v M1 => match tupAt v M1 with
    | some xs => bnd (denE C e env M1) fun w M2 => match w.see M2 with
      | some y => (indexD xs y).map fun z => .ok (.d z) M2
      | none => none
    | none => none
  | .mkt e, env, M => bnd (denE C e env M) fun v M1 => runMkt v M1
  | .lc tg own it cs e, env, M => bnd (denI C it env M) fun xs M1 =>
      bnd (lcL tg (wipeE env own) (denT C cs) (fun env M => bnd (denE C e env M) runHold) xs [] M1) fun ys M2 => some (.ok (.d (.lst ys)) M2)
noncomputable def denEs (C : Orc) : IEs → Env → Mem → Option (R (List Val))
  | .nil, _, M => some (.ok [] M)
  | .cons e es, env, M => bnd (denE C e env M) fun v M1 => bnd (denEs C es env M1) fun vs M2 => some (.ok (v :: vs) M2)
/-- texts, one behind the other -/
noncomputable def denF (C : Orc) : IEs → Str → Env → Mem → Option (R Val)
  | .nil, acc, _, M => some (.ok (.d (.str acc)) M)
  | .cons e es, acc, env, M => bnd (denE C e env M) fun v M1 => match v with
    | .d (.str y) => if (acc ++ y).length ≤ sizeLine then denF C es (acc ++ y) env M1 else none
    | _ => none
/-- the tests of a comprehension: none, or one -/
noncomputable def denT (C : Orc) : IEs → Env → Mem → Option (R Bool)
  | .nil, _, M => some (.ok true M)
  | .cons e .nil, env, M => bnd (denE C e env M) fun v M1 => match asB v with
    | some c => some (.ok c M1)
    | none => none
  | .cons _ (.cons _ _), _, _ => none
noncomputable def denI (C : Orc) : II → Env → Mem → Option (R (List D))
  | .seq e, env, M => bnd (denE C e env M) runSeq
  | .range es, env, M => bnd (denEs C es env M) runRange
  | .enum es, env, M => bnd (denEs C es env M) runEnum
  | .zip es, env, M => bnd (denEs C es env M) runZip
end
noncomputable def denB (C : Orc) (c : IE) (env : Env) (M : Mem) : Option (R Bool) := bnd (denE C c env M) fun v M1 => match asB v with
  | some b => some (.ok b M1)
  | none => none

/-! ### statements -/
def parSet : List Nat → List Val → Env → Option Env
  | [], [], env => some env
  | i :: is, v :: vs, env => parSet is vs (env.set i (some v))
  | _, _, _ => none
def setAt (o i v : Val) (M : Mem) : Option Mem :=
  match o, i, v.hold M with
  | .rf n, .d (.int k), some (x, M1) => match M1[n]? with
    | some (.lst xs) => (L2.ixN xs.length k).map fun j => M1.set n (.lst (xs.set j x))
    | _ => none
  | _, _, _ => none
mutual
noncomputable def denS (C : Orc) : IS → Env → Mem → Option Fl
  | .set (.nm i) e, env, M => bndS (denE C e env M) env fun v M1 => some (.nx (env.set i (some v)) M1)
  | .set (.tp ts) e, env, M => bndS (denE C e env M) env fun v M1 => match v.see M1 with
    | some x => match (Tg.tp ts).bind x env with
      | some env1 => some (.nx env1 M1)
      | none => none
    | none => none
  | .par is es, env, M => bndS (denEs C es env M) env fun vs M1 => match parSet is vs env with
    | some env1 => some (.nx env1 M1)
    | none => none
  | .setix o i e, env, M => bndS (denE C e env M) env fun v M1 => bndS (denE C o env M1) env fun ov M2 => bndS (denE C i env M2) env fun iv M3 => match setAt ov iv v M3 with
    | some M4 => some (.nx env M4)
    | none => none
  | .drop e, env, M => bndS (denE C e env M) env fun _ M1 => some (.nx env M1)
  | .ret e, env, M => bndS (denE C e env M) env fun v M1 => some (.rt v M1)
  | .retN, _, M => some (.rt (.d .non) M)
  | .pass, env, M => some (.nx env M)
  | .brk, env, M => some (.bk env M)
  | .cont, env, M => some (.ct env M)
  | .ife c a b, env, M => bndS (denB C c env M) env fun t M1 => if t = true then denSs C a env M1 else denSs C b env M1
  | .whl c b, env, M => whl (denB C c) (denSs C b) env M
  | .for tg it b, env, M => bndS (denI C it env M) env fun xs M1 => forL tg (denSs C b) xs env M1
  | .raise c es, env, M => bndS (denEs C es env M) env fun vs M1 => match holds M1 vs with
    | some (xs, M2) => some (.ex ⟨c, xs⟩ env M2)
    | none => none
  | .tryn b hs, env, M => match denSs C b env M with
    | some (.ex x env1 M1) => denH C hs x env1 M1
    | r => r
  | .setf f o e, env, M => bndS (denE C e env M) env fun v M1 => bndS (denE C o env M1) env fun ov M2 => match setF f ov v M2 with
    | some M3 => some (.nx env M3)
    | none => none
  | .setfs i fl e, env, M => bndS (denE C e env M) env fun v M1 => match env[i]? with
    | some (some ov) => match setFs fl ov v M1 with
      | some M2 => some (.nx env M2)
      | none => none
    | _ => none
  | .app o e, env, M => bndS (denE C o env M) env fun ov M1 => if isLst ov M1 = true then bndS (denE C e env M1) env fun v M2 => match appV ov v M2 with
      | some M3 => some (.nx env M3)
      | none => none
    else none
  | .asg2 i j e, env, M => bndS (denE C e env M) env fun v M1 => some (.nx ((env.set i (some v)).set j (some v)) M1)
  | .bad, _, _ => none
noncomputable def denSs (C : Orc) : ISs → Env → Mem → Option Fl
  | .nil, env, M => some (.nx env M)
  | .cons s ss, env, M => seqF (denS C s env M) (denSs C ss)
/-- the first clause that takes it -/
noncomputable def denH (C : Orc) : IHs → Xn → Env → Mem → Option Fl
  | .nil, x, env, M => some (.ex x env M)
  | .cons cs h r, x, env, M => if cs.contains x.c = true then denSs C h env M else denH C r x env M
end

/-! ### defs -/
structure Fn where
  np : Nat          -- the parameters (without the starred one)
  star : Bool
  ns : Nat          -- all slots
  body : ISs
  keep : Bool       -- does it hand a list back that its caller writes?
abbrev Tab := Nat → Option Fn

def endRet (keep : Bool) (k : Nat) (v : Val) (M : Mem) : Option (R Val) :=
  match v with
  | .d x => some (.ok (.d x) (M.take k))
  | .rf n => if n < k then some (.ok (.rf n) (M.take k)) else match M[n]? with
    | some (.lst xs) => if keep then some (.ok (.rf k) (M.take k ++ [.lst xs])) else some (.ok (.d (.lst xs)) (M.take k))
    | some (.frz xs) => some (.ok (.d (.lst xs)) (M.take k))
    | some (.tup xs) => some (.ok (.d (.tup xs)) (M.take k))
    | _ => none
def endFn (keep : Bool) (k : Nat) : Option Fl → Option (R Val)
  | some (.nx _ M) => some (.ok (.d .non) (M.take k))
  | some (.rt v M) => endRet keep k v M
  | some (.ex x _ M) => some (.ex x (M.take k))
  | _ => none
/-- the arguments, bound -/
def args (F : Fn) (vs : List Val) (M : Mem) : Option (List Val × Mem) :=
  if F.star then if F.np ≤ vs.length then match holds M (vs.drop F.np) with
      | some (xs, M1) => if xs.length ≤ sizeLine then some (vs.take F.np ++ [.d (.tup xs)], M1) else none
      | none => none
    else none
  else if vs.length = F.np then some (vs, M) else none
def startE (n : Nat) (vs : List Val) : Env := vs.map some ++ List.replicate (n - vs.length) none
noncomputable def callD (T : Tab) : Nat → Orc
  | 0, _, _, _ => none
  | l + 1, f, vs, M => match T f with
    | none => none
    | some F => match args F vs M with
      | none => none
      | some (ws, M1) => endFn F.keep M.length (denSs (callD T l) F.body (startE F.ns ws) M1)
end PyI

/-! PyI 2: what stands for what; the readings. -/
namespace PyI
open PySem PySem.Spec PyProof.Rows L2
open Evl (Ex)

/-- what the text's top left: the written part, the classes, their fields -/
structure Sta where
  K : PySem.W.Frag
  has : Nat → Bool
  ih : Nat → Bool
  fa : Nat → Addr
  fd : Nat → FuncData
  fix : Nat → Bool
  ps : Nat → List Str
  fok : Nat → Bool
  ca : Nat → Addr
  cf : Nat → List Nat
  fnm : Nat → Str
def Sta.names (S : Sta) (c : Nat) : List Str := (S.cf c).map S.fnm

mutual
def RepD (S : Sta) (F : Hp) : D → V → Prop
  | .non, v => v = V.non
  | .bl b, v => v = V.bl b
  | .int i, v => v = V.int i
  | .str x, v => v = V.str x
  | .tup xs, v => ∃ a vs, v = V.ref a ∧ SqT S.K F a vs ∧ RepL S F xs vs
  | .lst xs, v => ∃ a vs, v = V.ref a ∧ F a = some (.lst vs) ∧ RepL S F xs vs
  | .frl xs, v => ∃ a vs, v = V.ref a ∧ SqL S.K F a vs ∧ RepL S F xs vs
  | .emp, v => ∃ a, v = V.ref a ∧ F a = some (.dK [])
  | .cls c, v => S.ih c = true ∧ v = V.ref (S.ca c)
  | .ins c xs, v => S.ih c = true ∧ ∃ a dx vs, v = V.ref a ∧ F a = some (.ins (S.ca c) dx ((S.names c).zip vs)) ∧ vs.length = (S.names c).length ∧ RepL S F xs vs
def RepL (S : Sta) (F : Hp) : List D → List V → Prop
  | [], [] => True
  | x :: xs, v :: vs => RepD S F x v ∧ RepL S F xs vs
  | [], _ :: _ => False
  | _ :: _, [] => False
end
variable {S : Sta} {F F' H H' : Hp}

theorem repL_nil {vs : List V} (h : RepL S F [] vs) : vs = [] := by
  cases vs with
  | nil => rfl
  | cons v vs => exact (show False from by simpa only [RepL] using h).elim
theorem repL_cons {x : D} {xs : List D} {vs : List V} (h : RepL S F (x :: xs) vs) : ∃ v ws, vs = v :: ws ∧ RepD S F x v ∧ RepL S F xs ws := by
  cases vs with
  | nil => exact (show False from by simpa only [RepL] using h).elim
  | cons v ws =>
    have h : RepD S F x v ∧ RepL S F xs ws := by simpa only [RepL] using h
    exact ⟨v, ws, rfl, h.1, h.2⟩
theorem repL_mk {x : D} {xs : List D} {v : V} {ws : List V} (h1 : RepD S F x v) (h2 : RepL S F xs ws) : RepL S F (x :: xs) (v :: ws) := by
  show RepL S F (x :: xs) (v :: ws)
  simp only [RepL]
  exact ⟨h1, h2⟩
theorem repL_one {x : D} {v : V} (h : RepD S F x v) : RepL S F [x] [v] := repL_mk h (by simp only [RepL])
theorem repL_emp : RepL S F [] [] := by simp only [RepL]
theorem repL_len : ∀ {xs : List D} {vs : List V}, RepL S F xs vs → xs.length = vs.length
  | [], vs, h => by rw [repL_nil h] <;> rfl
  | x :: xs, vs, h => by
    obtain ⟨v, ws, rfl, _, h2⟩ := repL_cons h
    simp only [List.length_cons, repL_len h2]
theorem repL_get : ∀ {xs : List D} {vs : List V} {i : Nat} {x : D}, RepL S F xs vs → xs[i]? = some x → ∃ v, vs[i]? = some v ∧ RepD S F x v
  | [], vs, i, x, h, e => by simp at e
  | y :: xs, vs, i, x, h, e => by
    obtain ⟨v, ws, rfl, h1, h2⟩ := repL_cons h
    cases i with
    | zero =>
      have e : y = x := by simpa using e
      subst e
      exact ⟨v, rfl, h1⟩
    | succ i => exact repL_get (i := i) h2 (by simpa using e)
theorem repL_app : ∀ {xs ys : List D} {vs ws : List V}, RepL S F xs vs → RepL S F ys ws → RepL S F (xs ++ ys) (vs ++ ws)
  | [], ys, vs, ws, h, k => by rw [repL_nil h]; exact k
  | x :: xs, ys, vs, ws, h, k => by
    obtain ⟨v, us, rfl, h1, h2⟩ := repL_cons h
    exact repL_mk h1 (repL_app h2 k)
theorem repL_set : ∀ {xs : List D} {vs : List V} {x : D} {v : V} (i : Nat), RepL S F xs vs → RepD S F x v → RepL S F (xs.set i x) (vs.set i v)
  | [], vs, x, v, i, h, k => by rw [repL_nil h]; exact repL_emp
  | y :: xs, vs, x, v, i, h, k => by
    obtain ⟨w, us, rfl, h1, h2⟩ := repL_cons h
    cases i with
    | zero => exact repL_mk k h2
    | succ i => exact repL_mk h1 (repL_set i h2 k)
theorem repL_take : ∀ {xs : List D} {vs : List V} (n : Nat), RepL S F xs vs → RepL S F (xs.take n) (vs.take n)
  | _, _, 0, h => by simpa using repL_emp
  | [], vs, n + 1, h => by rw [repL_nil h]; exact repL_emp
  | x :: xs, vs, n + 1, h => by
    obtain ⟨w, us, rfl, h1, h2⟩ := repL_cons h
    exact repL_mk h1 (repL_take n h2)
theorem repL_drop : ∀ {xs : List D} {vs : List V} (n : Nat), RepL S F xs vs → RepL S F (xs.drop n) (vs.drop n)
  | _, _, 0, h => by simpa using h
  | [], vs, n + 1, h => by rw [repL_nil h]; exact repL_emp
  | x :: xs, vs, n + 1, h => by
    obtain ⟨w, us, rfl, h1, h2⟩ := repL_cons h
    exact repL_drop n h2
mutual
theorem repD_ex (e : Ex F F') : ∀ (x : D) {v : V}, RepD S F x v → RepD S F' x v
  | .non, _, h => h
  | .bl _, _, h => h
  | .int _, _, h => h
  | .str _, _, h => h
  | .tup xs, v, h => by
    obtain ⟨a, vs, rfl, h1, h2⟩ : ∃ a vs, v = V.ref a ∧ SqT S.K F a vs ∧ RepL S F xs vs := by simpa only [RepD] using h
    show RepD S F' (.tup xs) (.ref a)
    simp only [RepD]
    exact ⟨a, vs, rfl, Evl.ex_t e h1, repL_ex e xs h2⟩
  | .lst xs, v, h => by
    obtain ⟨a, vs, rfl, h1, h2⟩ : ∃ a vs, v = V.ref a ∧ F a = some (.lst vs) ∧ RepL S F xs vs := by simpa only [RepD] using h
    show RepD S F' (.lst xs) (.ref a)
    simp only [RepD]
    exact ⟨a, vs, rfl, e _ _ h1, repL_ex e xs h2⟩
  | .frl xs, v, h => by
    obtain ⟨a, vs, rfl, h1, h2⟩ : ∃ a vs, v = V.ref a ∧ SqL S.K F a vs ∧ RepL S F xs vs := by simpa only [RepD] using h
    show RepD S F' (.frl xs) (.ref a)
    simp only [RepD]
    exact ⟨a, vs, rfl, Evl.ex_l e h1, repL_ex e xs h2⟩
  | .emp, v, h => by
    obtain ⟨a, rfl, h1⟩ : ∃ a, v = V.ref a ∧ F a = some (.dK []) := by simpa only [RepD] using h
    simp only [RepD]
    exact ⟨a, rfl, e _ _ h1⟩
  | .cls c, v, h => h
  | .ins c xs, v, h => by
    obtain ⟨hc, a, dx, vs, rfl, h1, hl, h2⟩ : S.ih c = true ∧ ∃ a dx vs, v = V.ref a ∧ F a = some (.ins (S.ca c) dx ((S.names c).zip vs)) ∧ vs.length = (S.names c).length ∧ RepL S F xs vs := by simpa only [RepD] using h
    simp only [RepD]
    exact ⟨hc, a, dx, vs, rfl, e _ _ h1, hl, repL_ex e xs h2⟩
theorem repL_ex (e : Ex F F') : ∀ (xs : List D) {vs : List V}, RepL S F xs vs → RepL S F' xs vs
  | [], vs, h => by rw [repL_nil h]; exact repL_emp
  | x :: xs, vs, h => by
    obtain ⟨v, ws, rfl, h1, h2⟩ := repL_cons h
    exact repL_mk (repD_ex e x h1) (repL_ex e xs h2)
end
theorem repD_tup {xs : List D} {v : V} (h : RepD S F (.tup xs) v) : ∃ a vs, v = V.ref a ∧ SqT S.K F a vs ∧ RepL S F xs vs := by simpa only [RepD] using h
theorem repD_lst {xs : List D} {v : V} (h : RepD S F (.lst xs) v) : ∃ a vs, v = V.ref a ∧ F a = some (.lst vs) ∧ RepL S F xs vs := by simpa only [RepD] using h
theorem repD_frl {xs : List D} {v : V} (h : RepD S F (.frl xs) v) : ∃ a vs, v = V.ref a ∧ SqL S.K F a vs ∧ RepL S F xs vs := by simpa only [RepD] using h
theorem repD_int {i : Int} {v : V} (h : RepD S F (.int i) v) : v = V.int i := by simpa only [RepD] using h
theorem repD_bl {i : Bool} {v : V} (h : RepD S F (.bl i) v) : v = V.bl i := by simpa only [RepD] using h
theorem repD_str {i : Str} {v : V} (h : RepD S F (.str i) v) : v = V.str i := by simpa only [RepD] using h
theorem repD_non {v : V} (h : RepD S F .non v) : v = V.non := by simpa only [RepD] using h
theorem repD_emp {v : V} (h : RepD S F .emp v) : ∃ a, v = V.ref a ∧ F a = some (.dK []) := by simpa only [RepD] using h
theorem repD_ins {c : Nat} {xs : List D} {v : V} (h : RepD S F (.ins c xs) v) : S.ih c = true ∧ ∃ a dx vs, v = V.ref a ∧ F a = some (.ins (S.ca c) dx ((S.names c).zip vs)) ∧ vs.length = (S.names c).length ∧ RepL S F xs vs := by simpa only [RepD] using h
theorem repD_cls {c : Nat} {v : V} (h : RepD S F (.cls c) v) : S.ih c = true ∧ v = V.ref (S.ca c) := by simpa only [RepD] using h
theorem rep_cls {c : Nat} (h : S.ih c = true) : RepD S F (.cls c) (V.ref (S.ca c)) := by
  simp only [RepD]
  exact ⟨h, trivial⟩
theorem rep_ins {c : Nat} {xs : List D} {a dx : Addr} {vs : List V} (hc : S.ih c = true) (h : F a = some (.ins (S.ca c) dx ((S.names c).zip vs))) (hl : vs.length = (S.names c).length) (k : RepL S F xs vs) : RepD S F (.ins c xs) (.ref a) := by
  simp only [RepD]
  exact ⟨hc, a, dx, vs, rfl, h, hl, k⟩
theorem rep_int {i : Int} : RepD S F (.int i) (V.int i) := by simp only [RepD]
theorem rep_bl {i : Bool} : RepD S F (.bl i) (V.bl i) := by simp only [RepD]
theorem rep_str {i : Str} : RepD S F (.str i) (V.str i) := by simp only [RepD]
theorem rep_non : RepD S F .non V.non := by simp only [RepD]
theorem rep_tup {xs : List D} {a : Addr} {vs : List V} (h : SqT S.K F a vs) (k : RepL S F xs vs) : RepD S F (.tup xs) (.ref a) := by
  simp only [RepD]
  exact ⟨a, vs, rfl, h, k⟩
theorem rep_lst {xs : List D} {a : Addr} {vs : List V} (h : F a = some (.lst vs)) (k : RepL S F xs vs) : RepD S F (.lst xs) (.ref a) := by
  simp only [RepD]
  exact ⟨a, vs, rfl, h, k⟩
theorem rep_frl {xs : List D} {a : Addr} {vs : List V} (h : SqL S.K F a vs) (k : RepL S F xs vs) : RepD S F (.frl xs) (.ref a) := by
  simp only [RepD]
  exact ⟨a, vs, rfl, h, k⟩
theorem rep_emp {a : Addr} (h : F a = some (.dK [])) : RepD S F .emp (.ref a) := by
  simp only [RepD]
  exact ⟨a, rfl, h⟩

/-! ### names and cells -/
def RepV (S : Sta) (F : Hp) (μ : Nat → Addr) (m : Nat) : Val → V → Prop
  | .d x, w => RepD S F x w
  | .rf n, w => n < m ∧ w = V.ref (μ n)
def RepVs (S : Sta) (F : Hp) (μ : Nat → Addr) (m : Nat) : List Val → List V → Prop
  | [], [] => True
  | x :: xs, v :: vs => RepV S F μ m x v ∧ RepVs S F μ m xs vs
  | [], _ :: _ => False
  | _ :: _, [] => False
def CellR (S : Sta) (F H : Hp) (a : Addr) : Cell → Prop
  | .lst xs => F a = none ∧ ∃ vs, H a = some (.lst vs) ∧ RepL S F xs vs
  | .frz xs => ∃ vs, F a = some (.lst vs) ∧ RepL S F xs vs
  | .tup xs => ∃ vs o, F a = some (.frz o (.tup vs)) ∧ o.dict = none ∧ RepL S F xs vs
  | .ins c fs => S.ih c = true ∧ (∀ p ∈ fs, S.fok p.1 = true) ∧ F a = none ∧ ∃ dx vs, H a = some (.ins (S.ca c) dx ((fs.map fun p => S.fnm p.1).zip vs)) ∧ vs.length = fs.length ∧ RepL S F (fs.map (·.2)) vs
  | .gone => ∃ o, H a = some o
/-- the cells stand at μ; the rest of what is known is F -/
structure MemR (S : Sta) (μ : Nat → Addr) (F : Hp) (M : Mem) (H : Hp) : Prop where
  sub : Ex F H
  cell : ∀ n c, M[n]? = some c → CellR S F H (μ n) c
  inj : ∀ n m, n < M.length → m < M.length → μ n = μ m → n = m
structure EnvR (S : Sta) (μ : Nat → Addr) (F : Hp) (m : Nat) (env : Env) (σ : List (Option V)) : Prop where
  len : env.length = σ.length
  at_ : ∀ (i : Nat) (v : Val), env[i]? = some (some v) → ∃ w : V, σ[i]? = some (some w) ∧ RepV S F μ m v w

/-- from then on: F grew, the cells stand where they stood, new ones are new, nothing else was written -/
structure Aft (μ : Nat → Addr) (F H : Hp) (k : Nat) (μ' : Nat → Addr) (F' H' : Hp) (k' : Nat) : Prop where
  f : Ex F F'
  le : k ≤ k'
  mu : ∀ n, n < k → μ' n = μ n
  fr : ∀ a o, H a = some o → (∀ n, n < k → a ≠ μ n) → H' a = some o
  dom : ∀ a o, H a = some o → ∃ o', H' a = some o'
  new : ∀ n, k ≤ n → n < k' → H (μ' n) = none
  fn : ∀ a o, F' a = some o → F a = some o ∨ H a = none ∨ ∃ n, n < k' ∧ a = μ' n
section
variable {μ μ1 μ2 : Nat → Addr} {F1 F2 H1 H2 : Hp} {k k1 k2 : Nat}
theorem Aft.refl : Aft μ F H k μ F H k := ⟨Evl.Ex.refl F, Nat.le_refl _, fun _ _ => rfl, fun _ _ h _ => h, fun _ o h => ⟨o, h⟩, fun n h1 h2 => by omega, fun _ _ h => .inl h⟩
theorem Aft.trans (a : Aft μ F H k μ1 F1 H1 k1) (b : Aft μ1 F1 H1 k1 μ2 F2 H2 k2) : Aft μ F H k μ2 F2 H2 k2 := by
  refine ⟨a.f.trans b.f, Nat.le_trans a.le b.le, fun n h => (b.mu n (Nat.lt_of_lt_of_le h a.le)).trans (a.mu n h), fun x o h q => ?_, fun x o h => ?_, fun n h1 h2 => ?_, fun x o h => ?_⟩
  · refine b.fr x o (a.fr x o h q) fun n hn e => ?_
    by_cases hk : n < k
    · rw [a.mu n hk] at e
      exact q n hk e
    · have z := a.new n (by omega) hn
      rw [← e, h] at z
      cases z
  · obtain ⟨o1, h1⟩ := a.dom x o h
    exact b.dom x o1 h1
  · by_cases hk : n < k1
    · rw [b.mu n hk]
      exact a.new n h1 hk
    · have z := b.new n (by omega) h2
      cases e : H (μ2 n) with
      | none => rfl
      | some o =>
        obtain ⟨o1, h3⟩ := a.dom _ o e
        rw [z] at h3
        cases h3
  · rcases b.fn x o h with h | h | h
    · rcases a.fn x o h with h | h | ⟨n, h1, h2⟩
      · exact .inl h
      · exact .inr (.inl h)
      · exact .inr (.inr ⟨n, Nat.lt_of_lt_of_le h1 b.le, by rw [b.mu n h1]; exact h2⟩)
    · refine .inr (.inl ?_)
      cases e : H x with
      | none => rfl
      | some o =>
        obtain ⟨o1, h3⟩ := a.dom _ o e
        rw [h] at h3
        cases h3
    · exact .inr (.inr h)
theorem Aft.cut (a : Aft μ F H k μ1 F1 H1 k1) {j : Nat} (h1 : k ≤ j) (h2 : j ≤ k1) : Aft μ F H k μ1 F1 H1 j := ⟨a.f, h1, a.mu, a.fr, a.dom, fun n q1 q2 => a.new n q1 (by omega), fun x o h => by
  rcases a.fn x o h with h | h | ⟨n, q1, q2⟩
  · exact .inl h
  · exact .inr (.inl h)
  · by_cases hn : n < j
    · exact .inr (.inr ⟨n, hn, q2⟩)
    · exact .inr (.inl (by rw [q2]; exact a.new n (by omega) q1))⟩
theorem RepV.aft {v : Val} {w : V} (h : RepV S F μ k v w) (a : Aft μ F H k μ1 F1 H1 k1) : RepV S F1 μ1 k1 v w := by
  cases v with
  | d x => exact repD_ex a.f x h
  | rf n =>
    obtain ⟨h1, h2⟩ := (show n < k ∧ w = V.ref (μ n) from h)
    exact ⟨Nat.lt_of_lt_of_le h1 a.le, by rw [h2, a.mu n h1]⟩
theorem RepVs.nil {vs : List V} (h : RepVs S F μ k [] vs) : vs = [] := by
  cases vs with
  | nil => rfl
  | cons v vs => exact (show False from h).elim
theorem RepVs.cons {x : Val} {xs : List Val} {vs : List V} (h : RepVs S F μ k (x :: xs) vs) : ∃ v ws, vs = v :: ws ∧ RepV S F μ k x v ∧ RepVs S F μ k xs ws := by
  cases vs with
  | nil => exact (show False from h).elim
  | cons v ws => exact ⟨v, ws, rfl, h.1, h.2⟩
theorem RepVs.len : ∀ {xs : List Val} {vs : List V}, RepVs S F μ k xs vs → xs.length = vs.length
  | [], vs, h => by rw [h.nil] <;> rfl
  | x :: xs, vs, h => by
    obtain ⟨v, ws, rfl, _, h2⟩ := h.cons
    simp only [List.length_cons, h2.len]
theorem RepVs.aft : ∀ {xs : List Val} {vs : List V}, RepVs S F μ k xs vs → Aft μ F H k μ1 F1 H1 k1 → RepVs S F1 μ1 k1 xs vs
  | [], vs, h, a => by rw [h.nil]; trivial
  | x :: xs, vs, h, a => by
    obtain ⟨v, ws, rfl, h1, h2⟩ := h.cons
    exact ⟨h1.aft a, h2.aft a⟩
theorem RepVs.take : ∀ {xs : List Val} {vs : List V} (n : Nat), RepVs S F μ k xs vs → RepVs S F μ k (xs.take n) (vs.take n)
  | _, _, 0, _ => by simp only [List.take_zero]; trivial
  | [], vs, n + 1, h => by rw [h.nil]; trivial
  | x :: xs, vs, n + 1, h => by
    obtain ⟨v, ws, rfl, h1, h2⟩ := h.cons
    exact ⟨h1, h2.take n⟩
theorem RepVs.drop : ∀ {xs : List Val} {vs : List V} (n : Nat), RepVs S F μ k xs vs → RepVs S F μ k (xs.drop n) (vs.drop n)
  | _, _, 0, h => by simpa using h
  | [], vs, n + 1, h => by rw [h.nil]; trivial
  | x :: xs, vs, n + 1, h => by
    obtain ⟨v, ws, rfl, h1, h2⟩ := h.cons
    exact h2.drop n
theorem RepVs.append : ∀ {xs ys : List Val} {vs ws : List V}, RepVs S F μ k xs vs → RepVs S F μ k ys ws → RepVs S F μ k (xs ++ ys) (vs ++ ws)
  | [], ys, vs, ws, h, g => by rw [h.nil]; exact g
  | x :: xs, ys, vs, ws, h, g => by
    obtain ⟨v, us, rfl, h1, h2⟩ := h.cons
    exact ⟨h1, h2.append g⟩
theorem EnvR.aft {env : Env} {σ : List (Option V)} (h : EnvR S μ F k env σ) (a : Aft μ F H k μ1 F1 H1 k1) : EnvR S μ1 F1 k1 env σ :=
  ⟨h.len, fun i v e => let ⟨w, h1, h2⟩ := h.at_ i v e; ⟨w, h1, h2.aft a⟩⟩
theorem EnvR.set {env : Env} {σ : List (Option V)} (h : EnvR S μ F k env σ) (i : Nat) {v : Val} {w : V} (r : RepV S F μ k v w) : EnvR S μ F k (env.set i (some v)) (σ.set i (some w)) := by
  refine ⟨by simp only [List.length_set, h.len], fun j u e => ?_⟩
  by_cases hj : i = j
  · subst hj
    by_cases hl : i < env.length
    · rw [List.getElem?_set_self hl] at e
      have e := Option.some.inj (Option.some.inj e)
      subst e
      exact ⟨w, List.getElem?_set_self (by rw [← h.len]; exact hl), r⟩
    · rw [List.getElem?_eq_none (by simpa using hl)] at e
      cases e
  · rw [List.getElem?_set_ne hj] at e ⊢
    exact h.at_ j u e
theorem EnvR.unset {env : Env} {σ : List (Option V)} (h : EnvR S μ F k env σ) (i : Nat) : EnvR S μ F k (env.set i none) (σ.set i none) := by
  refine ⟨by simp only [List.length_set, h.len], fun j u e => ?_⟩
  by_cases hj : i = j
  · subst hj
    by_cases hl : i < env.length
    · rw [List.getElem?_set_self hl] at e
      cases e
    · rw [List.getElem?_eq_none (by simpa using hl)] at e
      cases e
  · rw [List.getElem?_set_ne hj] at e ⊢
    exact h.at_ j u e
theorem EnvR.wipe {env : Env} {σ : List (Option V)} (h : EnvR S μ F k env σ) : ∀ own : List Nat, EnvR S μ F k (wipeE env own) (L2.wipe σ own)
  | [] => h
  | v :: vs => (EnvR.wipe h vs).unset v
end

/-- only new things came -/
structure Grow (F F' H H' : Hp) : Prop where
  f : Ex F F'
  h : Ex H H'
  new : ∀ a o, F' a = some o → F a = some o ∨ H a = none
  sub : Ex F' H'
theorem Grow.same {F H : Hp} (s : Ex F H) : Grow F F H H := ⟨Evl.Ex.refl F, Evl.Ex.refl H, fun _ _ h => .inl h, s⟩
theorem Grow.one {F H : Hp} (s : Ex F H) {p : Addr} (o : HO) (hp : H p = none) : Grow F (upd F p o) H (upd H p o) := by
  have fp : F p = Option.none := Evl.fresh_back s hp
  refine ⟨Evl.Ex.new fp, Evl.Ex.new hp, fun a u e => ?_, fun a u e => ?_⟩
  · by_cases h : a = p
    · subst h; exact .inr hp
    · rw [upd_ne h] at e; exact .inl e
  · by_cases h : a = p
    · subst h; rw [upd_same] at e ⊢; exact e
    · rw [upd_ne h] at e ⊢; exact s a u e
theorem CellR.grow {a : Addr} {c : Cell} (h : CellR S F H a c) (g : Grow F F' H H') : CellR S F' H' a c := by
  have nn : F a = none → ∀ o, H a = some o → F' a = none := fun hf o ho => by
    cases e : F' a with
    | none => rfl
    | some u =>
      rcases g.new a u e with z | z
      · rw [hf] at z; cases z
      · rw [ho] at z; cases z
  cases c with
  | lst xs =>
    obtain ⟨h1, vs, h2, h3⟩ := h
    exact ⟨nn h1 _ h2, vs, g.h _ _ h2, repL_ex g.f xs h3⟩
  | frz xs =>
    obtain ⟨vs, h2, h3⟩ := h
    exact ⟨vs, g.f _ _ h2, repL_ex g.f xs h3⟩
  | tup xs =>
    obtain ⟨vs, o, h2, h3, h4⟩ := h
    exact ⟨vs, o, g.f _ _ h2, h3, repL_ex g.f xs h4⟩
  | ins c fs =>
    obtain ⟨h0, hk, h1, dx, vs, h2, h3, h4⟩ := h
    exact ⟨h0, hk, nn h1 _ h2, dx, vs, g.h _ _ h2, h3, repL_ex g.f _ h4⟩
  | gone =>
    obtain ⟨o, h1⟩ := h
    exact ⟨o, g.h _ _ h1⟩
theorem CellR.there {a : Addr} {c : Cell} (h : CellR S F H a c) (s : Ex F H) : ∃ o, H a = some o := by
  cases c with
  | lst xs => obtain ⟨_, vs, h2, _⟩ := h; exact ⟨_, h2⟩
  | frz xs => obtain ⟨vs, h1, _⟩ := h; exact ⟨_, s _ _ h1⟩
  | tup xs => obtain ⟨vs, _, h1, _⟩ := h; exact ⟨_, s _ _ h1⟩
  | ins c fs => obtain ⟨_, _, _, dx, vs, h2, _⟩ := h; exact ⟨_, h2⟩
  | gone => exact h
theorem MemR.grow {μ : Nat → Addr} {M : Mem} (h : MemR S μ F M H) (g : Grow F F' H H') : MemR S μ F' M H' :=
  ⟨g.sub, fun n c e => (h.cell n c e).grow g, h.inj⟩
theorem Grow.aft {μ : Nat → Addr} {k : Nat} (g : Grow F F' H H') : Aft μ F H k μ F' H' k := ⟨g.f, Nat.le_refl _, fun _ _ => rfl, fun a o h _ => g.h a o h, fun a o h => ⟨o, g.h a o h⟩, fun n h1 h2 => by omega, fun a o h => (g.new a o h).elim .inl fun z => .inr (.inl z)⟩
theorem Grow.trans {F1 H1 F2 H2 : Hp} (a : Grow F F1 H H1) (b : Grow F1 F2 H1 H2) : Grow F F2 H H2 :=
  ⟨a.f.trans b.f, a.h.trans b.h, fun x o e => by
    rcases b.new x o e with z | z
    · exact a.new x o z
    · exact .inr (Evl.fresh_back a.h z), b.sub⟩
/-- a cell more -/
theorem MemR.cellNew {μ : Nat → Addr} {M : Mem} (h : MemR S μ F M H) {p : Addr} {o : HO} {c : Cell} (hp : H p = none) (r : CellR S F (upd H p o) p c) :
    MemR S (fun n => if n = M.length then p else μ n) F (M ++ [c]) (upd H p o) ∧ Aft μ F H M.length (fun n => if n = M.length then p else μ n) F (upd H p o) (M ++ [c]).length := by
  have s : Ex F (upd H p o) := h.sub.trans (Evl.Ex.new hp)
  have fp : F p = none := Evl.fresh_back h.sub hp
  have g : Grow F F H (upd H p o) := ⟨Evl.Ex.refl F, Evl.Ex.new hp, fun a u e => .inl e, s⟩
  refine ⟨⟨s, fun n d e => ?_, fun n m hn hm e => ?_⟩, Evl.Ex.refl F, by simp, fun n hn => ?_, fun a u e _ => g.h a u e, fun a u e => ⟨u, g.h a u e⟩, fun n h1 h2 => ?_, fun a u e => .inl e⟩
  · by_cases hl : n < M.length
    · rw [List.getElem?_append_left hl] at e
      have z := (h.cell n d e).grow g
      show CellR S F (upd H p o) (if n = M.length then p else μ n) d
      rw [if_neg (by omega)]
      exact z
    · rw [List.getElem?_append_right (by omega)] at e
      have hn : n = M.length := by
        cases hk : n - M.length with
        | zero => omega
        | succ k => rw [hk] at e; simp at e
      subst hn
      have e : c = d := by simpa using e
      subst e
      show CellR S F (upd H p o) (if M.length = M.length then p else μ M.length) c
      rw [if_pos rfl]
      exact r
  · have e : (if n = M.length then p else μ n) = (if m = M.length then p else μ m) := e
    simp only [List.length_append, List.length_cons, List.length_nil] at hn hm
    have old : ∀ j, j < M.length → μ j ≠ p := fun j hj z => by
      obtain ⟨u, hu⟩ := (h.cell j _ (List.getElem?_eq_getElem hj)).there h.sub
      rw [z, hp] at hu
      cases hu
    by_cases h1 : n = M.length
    · by_cases h2 : m = M.length
      · omega
      · rw [if_pos h1, if_neg h2] at e
        exact absurd e.symm (old m (by omega))
    · by_cases h2 : m = M.length
      · rw [if_neg h1, if_pos h2] at e
        exact absurd e (old n (by omega))
      · rw [if_neg h1, if_neg h2] at e
        exact h.inj n m (by omega) (by omega) e
  · show (if n = M.length then p else μ n) = μ n
    rw [if_neg (by omega)]
  · have e : n = M.length := by simp at h2; omega
    show H (if n = M.length then p else μ n) = none
    rw [if_pos e]
    exact hp
/-- a cell more, that is written never -/
theorem MemR.cellNewF {μ : Nat → Addr} {M : Mem} (h : MemR S μ F M H) {p : Addr} {o : HO} {c : Cell} (hp : H p = none) (r : CellR S (upd F p o) (upd H p o) p c) :
    MemR S (fun n => if n = M.length then p else μ n) (upd F p o) (M ++ [c]) (upd H p o) ∧ Aft μ F H M.length (fun n => if n = M.length then p else μ n) (upd F p o) (upd H p o) (M ++ [c]).length := by
  have g := Grow.one h.sub o hp
  refine ⟨⟨g.sub, fun n d e => ?_, fun n m hn hm e => ?_⟩, g.f, by simp, fun n hn => ?_, fun a u e _ => g.h a u e, fun a u e => ⟨u, g.h a u e⟩, fun n h1 h2 => ?_, fun a u e => (g.new a u e).elim .inl fun z => .inr (.inl z)⟩
  · by_cases hl : n < M.length
    · rw [List.getElem?_append_left hl] at e
      have z := (h.cell n d e).grow g
      show CellR S (upd F p o) (upd H p o) (if n = M.length then p else μ n) d
      rw [if_neg (by omega)]
      exact z
    · rw [List.getElem?_append_right (by omega)] at e
      have hn : n = M.length := by
        cases hk : n - M.length with
        | zero => omega
        | succ k => rw [hk] at e; simp at e
      subst hn
      have e : c = d := by simpa using e
      subst e
      show CellR S (upd F p o) (upd H p o) (if M.length = M.length then p else μ M.length) c
      rw [if_pos rfl]
      exact r
  · have e : (if n = M.length then p else μ n) = (if m = M.length then p else μ m) := e
    simp only [List.length_append, List.length_cons, List.length_nil] at hn hm
    have old : ∀ j, j < M.length → μ j ≠ p := fun j hj z => by
      obtain ⟨u, hu⟩ := (h.cell j _ (List.getElem?_eq_getElem hj)).there h.sub
      rw [z, hp] at hu
      cases hu
    by_cases h1 : n = M.length
    · by_cases h2 : m = M.length
      · omega
      · rw [if_pos h1, if_neg h2] at e
        exact absurd e.symm (old m (by omega))
    · by_cases h2 : m = M.length
      · rw [if_neg h1, if_pos h2] at e
        exact absurd e (old n (by omega))
      · rw [if_neg h1, if_neg h2] at e
        exact h.inj n m (by omega) (by omega) e
  · show (if n = M.length then p else μ n) = μ n
    rw [if_neg (by omega)]
  · have e : n = M.length := by simp at h2; omega
    show H (if n = M.length then p else μ n) = none
    rw [if_pos e]
    exact hp
/-- a cell is written -/
theorem MemR.cellSet {μ : Nat → Addr} {M : Mem} (h : MemR S μ F M H) {n : Nat} {o : HO} {c : Cell} (hn : n < M.length) (hf : F (μ n) = none) (r : CellR S F (upd H (μ n) o) (μ n) c) : MemR S μ F (M.set n c) (upd H (μ n) o) ∧ Aft μ F H M.length μ F (upd H (μ n) o) (M.set n c).length := by
  have s : Ex F (upd H (μ n) o) := Evl.Ex.mut h.sub hf
  refine ⟨⟨s, fun m d e => ?_, fun a b ha hb => h.inj a b (by simpa using ha) (by simpa using hb)⟩, Evl.Ex.refl F, by simp, fun _ _ => rfl, fun a u e q => by rw [upd_ne (q n hn)]; exact e, fun a u e => ?_, fun m h1 h2 => by simp at h2; omega, fun a u e => .inl e⟩
  rotate_left
  · by_cases q : a = μ n
    · exact ⟨o, by rw [q]; exact upd_same⟩
    · exact ⟨u, by rw [upd_ne q]; exact e⟩
  by_cases hm : n = m
  · subst hm
    rw [List.getElem?_set_self hn] at e
    have e := Option.some.inj e
    subst e
    exact r
  · rw [List.getElem?_set_ne hm] at e
    have hl : m < M.length := (List.getElem?_eq_some_iff.mp e).1
    have ne : μ m ≠ μ n := fun z => hm (h.inj m n hl hn z).symm
    have z := h.cell m d e
    cases d with
    | lst xs =>
      obtain ⟨h1, vs, h2, h3⟩ := z
      exact ⟨h1, vs, by rw [upd_ne ne]; exact h2, h3⟩
    | frz xs => exact z
    | tup xs => exact z
    | ins c fs =>
      obtain ⟨h0, hk, h1, dx, vs, h2, h3, h4⟩ := z
      exact ⟨h0, hk, h1, dx, vs, by rw [upd_ne ne]; exact h2, h3, h4⟩
    | gone =>
      obtain ⟨u, h1⟩ := z
      exact ⟨u, by rw [upd_ne ne]; exact h1⟩
/-- a cell is frozen -/
theorem MemR.freeze {μ : Nat → Addr} {M : Mem} (h : MemR S μ F M H) {n : Nat} {xs : List D} (e : M[n]? = some (.lst xs)) :
    ∃ F', Ex F F' ∧ MemR S μ F' (M.set n (.frz xs)) H ∧ Aft μ F H M.length μ F' H (M.set n (.frz xs)).length ∧ RepD S F' (.lst xs) (.ref (μ n)) := by
  obtain ⟨h1, vs, h2, h3⟩ := h.cell n _ e
  have hn : n < M.length := (List.getElem?_eq_some_iff.mp e).1
  have ef : Ex F (upd F (μ n) (.lst vs)) := Evl.Ex.new h1
  refine ⟨upd F (μ n) (.lst vs), ef, ⟨fun a o q => ?_, fun m d q => ?_, fun a b ha hb => h.inj a b (by simpa using ha) (by simpa using hb)⟩, ⟨ef, by simp, fun _ _ => rfl, fun _ _ q _ => q, fun _ o q => ⟨o, q⟩, fun m h1 h2 => by simp at h2; omega, fun a o q => ?_⟩, ?_⟩
  · by_cases hx : a = μ n
    · subst hx; rw [upd_same] at q; rw [h2]; exact q
    · rw [upd_ne hx] at q; exact h.sub a o q
  · by_cases hm : n = m
    · subst hm
      rw [List.getElem?_set_self hn] at q
      have q := Option.some.inj q
      subst q
      exact ⟨vs, upd_same, repL_ex ef xs h3⟩
    · rw [List.getElem?_set_ne hm] at q
      have hl : m < M.length := (List.getElem?_eq_some_iff.mp q).1
      have ne : μ m ≠ μ n := fun z => hm (h.inj m n hl hn z).symm
      have z := h.cell m d q
      cases d with
      | lst ys =>
        obtain ⟨k1, ws, k2, k3⟩ := z
        exact ⟨by rw [upd_ne ne]; exact k1, ws, k2, repL_ex ef ys k3⟩
      | frz ys =>
        obtain ⟨ws, k2, k3⟩ := z
        exact ⟨ws, ef _ _ k2, repL_ex ef ys k3⟩
      | tup ys =>
        obtain ⟨ws, o, k2, k3, k4⟩ := z
        exact ⟨ws, o, ef _ _ k2, k3, repL_ex ef ys k4⟩
      | ins c fs =>
        obtain ⟨k0, kk, k1, dx, ws, k2, k3, k4⟩ := z
        exact ⟨k0, kk, by rw [upd_ne ne]; exact k1, dx, ws, k2, k3, repL_ex ef _ k4⟩
      | gone => exact z
  · by_cases hx : a = μ n
    · exact .inr (.inr ⟨n, by simpa using hn, hx⟩)
    · rw [upd_ne hx] at q; exact .inl q
  · exact rep_lst upd_same (repL_ex ef xs h3)
/-- a cell that is an instance is written no more; it leaves the memory -/
theorem MemR.freezeIns {μ : Nat → Addr} {M : Mem} {c : Nat} {fs : List (Nat × D)} (h : MemR S μ F (M ++ [.ins c fs]) H) (hf : fs.map (·.1) = S.cf c) :
    ∃ F', Ex F F' ∧ MemR S μ F' M H ∧ Aft μ F H (M.length + 1) μ F' H (M.length + 1) ∧ RepD S F' (.ins c (fs.map (·.2))) (.ref (μ M.length)) := by
  have e : (M ++ [Cell.ins c fs])[M.length]? = some (.ins c fs) := by simp
  obtain ⟨h0, _, h1, dx, vs, h2, h3, h4⟩ := h.cell M.length _ e
  have ef : Ex F (upd F (μ M.length) (.ins (S.ca c) dx ((fs.map fun p => S.fnm p.1).zip vs))) := Evl.Ex.new h1
  have ll : (M ++ [Cell.ins c fs]).length = M.length + 1 := by simp
  have en : fs.map (fun p => S.fnm p.1) = S.names c := by
    unfold Sta.names
    rw [← hf, List.map_map]
    rfl
  refine ⟨upd F (μ M.length) (.ins (S.ca c) dx ((fs.map fun p => S.fnm p.1).zip vs)), ef, ⟨fun a o q => ?_, fun m d q => ?_, fun a b ha hb => h.inj a b (by omega) (by omega)⟩, ⟨ef, Nat.le_refl _, fun _ _ => rfl, fun _ _ q _ => q, fun _ o q => ⟨o, q⟩, fun m h1 h2 => by omega, fun a o q => ?_⟩, ?_⟩
  · by_cases hx : a = μ M.length
    · subst hx; rw [upd_same] at q; rw [h2]; exact q
    · rw [upd_ne hx] at q; exact h.sub a o q
  · have hl : m < M.length := (List.getElem?_eq_some_iff.mp q).1
    have q : (M ++ [Cell.ins c fs])[m]? = some d := by rw [List.getElem?_append_left hl]; exact q
    have ne : μ m ≠ μ M.length := fun z => by
      have := h.inj m M.length (by omega) (by omega) z
      omega
    have z := h.cell m d q
    cases d with
    | lst ys =>
      obtain ⟨k1, ws, k2, k3⟩ := z
      exact ⟨by rw [upd_ne ne]; exact k1, ws, k2, repL_ex ef ys k3⟩
    | frz ys =>
      obtain ⟨ws, k2, k3⟩ := z
      exact ⟨ws, ef _ _ k2, repL_ex ef ys k3⟩
    | tup ys =>
      obtain ⟨ws, o, k2, k3, k4⟩ := z
      exact ⟨ws, o, ef _ _ k2, k3, repL_ex ef ys k4⟩
    | ins c fs =>
      obtain ⟨k0, kk, k1, dx, ws, k2, k3, k4⟩ := z
      exact ⟨k0, kk, by rw [upd_ne ne]; exact k1, dx, ws, k2, k3, repL_ex ef _ k4⟩
    | gone => exact z
  · by_cases hx : a = μ M.length
    · exact .inr (.inr ⟨M.length, by omega, hx⟩)
    · rw [upd_ne hx] at q; exact .inl q
  · refine rep_ins (vs := vs) (dx := dx) h0 ?_ ?_ (repL_ex ef _ h4)
    · rw [upd_same, en]
    · rw [h3, ← en, List.length_map]
theorem MemR.take {μ : Nat → Addr} {M : Mem} (h : MemR S μ F M H) (k : Nat) : MemR S μ F (M.take k) H := by
  refine ⟨h.sub, fun n c e => ?_, fun a b ha hb => h.inj a b ?_ ?_⟩
  · by_cases hn : n < k
    · rw [List.getElem?_take_of_lt hn] at e
      exact h.cell n c e
    · rw [List.getElem?_eq_none (by rw [List.length_take]; omega)] at e
      cases e
  · rw [List.length_take] at ha; omega
  · rw [List.length_take] at hb; omega
end PyI

/-! PyI 3: the readings of expressions, the operations. -/
namespace PyI
open PySem PySem.Spec PyProof.Rows L2
open Evl (Ex)

def RepX (S : Sta) (F : Hp) (x : Xn) (cls : Value) (d : Option Addr) : Prop :=
  S.has x.c = true ∧ cls = .ref (S.ca x.c) ∧ ((x.fs = [] ∧ d = none) ∨ ∃ dd vs, d = some dd ∧ F dd = some (.xd ((S.names x.c).zip vs)) ∧ vs.length = (S.names x.c).length ∧ RepL S F x.fs vs)
theorem RepX.ex {S : Sta} {F F' : Hp} {x : Xn} {cls : Value} {d : Option Addr} (h : RepX S F x cls d) (e : Ex F F') : RepX S F' x cls d := by
  obtain ⟨h0, h1, h2⟩ := h
  refine ⟨h0, h1, ?_⟩
  rcases h2 with h2 | ⟨dd, vs, h2, h3, h4, h5⟩
  · exact .inl h2
  · exact .inr ⟨dd, vs, h2, e _ _ h3, h4, repL_ex e _ h5⟩

abbrev Sl := List (Option V)

/-- what is wanted behind an expression -/
def KE (S : Sta) (W : WX) (μ : Nat → Addr) (F H : Hp) (k : Nat) (σ : Sl) (Q : VK) : R Val → Prop
  | .ok v M => ∀ μ' F' H' w, Aft μ F H k μ' F' H' M.length → MemR S μ' F' M H' → RepV S F' μ' M.length v w → Q w H'
  | .ex x M => ∀ μ' F' H' cls d, Aft μ F H k μ' F' H' M.length → MemR S μ' F' M H' → RepX S F' x cls d → W cls d σ H'
def KB (S : Sta) (W : WX) (μ : Nat → Addr) (F H : Hp) (k : Nat) (σ : Sl) (Q : Bool → Hp → Prop) : R Bool → Prop
  | .ok b M => ∀ μ' F' H', Aft μ F H k μ' F' H' M.length → MemR S μ' F' M H' → Q b H'
  | .ex x M => ∀ μ' F' H' cls d, Aft μ F H k μ' F' H' M.length → MemR S μ' F' M H' → RepX S F' x cls d → W cls d σ H'
def KA (S : Sta) (W : WX) (μ : Nat → Addr) (F H : Hp) (k : Nat) (σ : Sl) (Q : List V → Hp → Prop) : R (List Val) → Prop
  | .ok vs M => ∀ μ' F' H' ws, Aft μ F H k μ' F' H' M.length → MemR S μ' F' M H' → RepVs S F' μ' M.length vs ws → Q ws H'
  | .ex x M => ∀ μ' F' H' cls d, Aft μ F H k μ' F' H' M.length → MemR S μ' F' M H' → RepX S F' x cls d → W cls d σ H'
def rE (S : Sta) (C : Orc) (W : WX) (e : IE) : TE := fun σ H Q =>
  ∃ μ F env M r, MemR S μ F M H ∧ EnvR S μ F M.length env σ ∧ denE C e env M = some r ∧ KE S W μ F H M.length σ Q r
def rB (S : Sta) (C : Orc) (W : WX) (e : IE) : TT := fun σ H Q =>
  ∃ μ F env M r, MemR S μ F M H ∧ EnvR S μ F M.length env σ ∧ denB C e env M = some r ∧ KB S W μ F H M.length σ Q r
def rA (S : Sta) (C : Orc) (W : WX) (es : IEs) : TA := fun σ H Q =>
  ∃ μ F env M r, MemR S μ F M H ∧ EnvR S μ F M.length env σ ∧ denEs C es env M = some r ∧ KA S W μ F H M.length σ Q r

section
variable {S : Sta} {C : Orc} {W : WX} {X : Cx}
theorem peI {e : Expr} {t t' : TE} (h : PE X e t) (i : ∀ σ H Q, t' σ H Q → t σ H Q) : PE X e t' := ⟨fun pins s σ H Q I q => h.run pins s σ H Q I (i σ H Q q)⟩
theorem ptI {e : Expr} {t t' : TT} (h : PT X e t) (i : ∀ σ H Q, t' σ H Q → t σ H Q) : PT X e t' := ⟨fun pins s σ H Q I q => h.run pins s σ H Q I (i σ H Q q)⟩
theorem pwI {e : Expr} {t t' : TT} (h : PW X e t) (i : ∀ σ H Q, t' σ H Q → t σ H Q) : PW X e t' := ⟨fun wh pins s σ H Q I q => h.run wh pins s σ H Q I (i σ H Q q)⟩
theorem paI {es : List Expr} {t t' : TA} (h : PA X es t) (i : ∀ σ H Q, t' σ H Q → t σ H Q) : PA X es t' := ⟨fun pos pins s σ H Q I q => h.run pos pins s σ H Q I (i σ H Q q)⟩
theorem psI {st : Stmt} {t t' : TS} (h : PS X st t) (i : ∀ D σ H, t' D σ H → t D σ H) : PS X st t' := ⟨fun pins s σ H D I q => h.run pins s σ H D I (i D σ H q)⟩
theorem pssI {st : List Stmt} {t t' : TS} (h : PSs X st t) (i : ∀ D σ H, t' D σ H → t D σ H) : PSs X st t' := ⟨fun pins s σ H D I q => h.run pins s σ H D I (i D σ H q)⟩

theorem KE.weak {μ μ1 : Nat → Addr} {F F1 H H1 : Hp} {k k1 : Nat} {σ : Sl} {Q : VK} {r : R Val} (a : Aft μ F H k μ1 F1 H1 k1) (h : KE S W μ F H k σ Q r) : KE S W μ1 F1 H1 k1 σ Q r := by
  cases r with
  | ok v M => exact fun μ' F' H' w b m q => h μ' F' H' w (a.trans b) m q
  | ex x M => exact fun μ' F' H' c d b m q => h μ' F' H' c d (a.trans b) m q
theorem KB.weak {μ μ1 : Nat → Addr} {F F1 H H1 : Hp} {k k1 : Nat} {σ : Sl} {Q : Bool → Hp → Prop} {r : R Bool} (a : Aft μ F H k μ1 F1 H1 k1) (h : KB S W μ F H k σ Q r) : KB S W μ1 F1 H1 k1 σ Q r := by
  cases r with
  | ok v M => exact fun μ' F' H' b m => h μ' F' H' (a.trans b) m
  | ex x M => exact fun μ' F' H' c d b m q => h μ' F' H' c d (a.trans b) m q
theorem KA.weak {μ μ1 : Nat → Addr} {F F1 H H1 : Hp} {k k1 : Nat} {σ : Sl} {Q : List V → Hp → Prop} {r : R (List Val)} (a : Aft μ F H k μ1 F1 H1 k1) (h : KA S W μ F H k σ Q r) : KA S W μ1 F1 H1 k1 σ Q r := by
  cases r with
  | ok v M => exact fun μ' F' H' w b m q => h μ' F' H' w (a.trans b) m q
  | ex x M => exact fun μ' F' H' c d b m q => h μ' F' H' c d (a.trans b) m q

/-- the first part of an expression, then the rest -/
theorem rE_bnd {e : IE} {σ : Sl} {H : Hp} {Q : VK} {μ : Nat → Addr} {F : Hp} {env : Env} {M : Mem} {k : Val → Mem → Option (R Val)} {r : R Val} {Q1 : VK}
    (hM : MemR S μ F M H) (hE : EnvR S μ F M.length env σ) (hd : bnd (denE C e env M) k = some r) (hk : KE S W μ F H M.length σ Q r)
    (next : ∀ μ1 F1 H1 v M1 w, Aft μ F H M.length μ1 F1 H1 M1.length → MemR S μ1 F1 M1 H1 → EnvR S μ1 F1 M1.length env σ → RepV S F1 μ1 M1.length v w → k v M1 = some r → KE S W μ1 F1 H1 M1.length σ Q r → Q1 w H1) :
    rE S C W e σ H Q1 := by
  rcases bnd_eq hd with ⟨v, M1, e1, h1⟩ | ⟨x, M1, e1, e2⟩
  · exact ⟨μ, F, env, M, _, hM, hE, e1, fun μ1 F1 H1 w a m q => next μ1 F1 H1 v M1 w a m (hE.aft a) q h1 (hk.weak a)⟩
  · subst e2
    exact ⟨μ, F, env, M, _, hM, hE, e1, hk⟩
theorem rA_bnd {es : IEs} {σ : Sl} {H : Hp} {Q : VK} {μ : Nat → Addr} {F : Hp} {env : Env} {M : Mem} {k : List Val → Mem → Option (R Val)} {r : R Val} {Q1 : List V → Hp → Prop}
    (hM : MemR S μ F M H) (hE : EnvR S μ F M.length env σ) (hd : bnd (denEs C es env M) k = some r) (hk : KE S W μ F H M.length σ Q r)
    (next : ∀ μ1 F1 H1 vs M1 ws, Aft μ F H M.length μ1 F1 H1 M1.length → MemR S μ1 F1 M1 H1 → EnvR S μ1 F1 M1.length env σ → RepVs S F1 μ1 M1.length vs ws → k vs M1 = some r → KE S W μ1 F1 H1 M1.length σ Q r → Q1 ws H1) :
    rA S C W es σ H Q1 := by
  rcases bnd_eq hd with ⟨v, M1, e1, h1⟩ | ⟨x, M1, e1, e2⟩
  · exact ⟨μ, F, env, M, _, hM, hE, e1, fun μ1 F1 H1 w a m q => next μ1 F1 H1 v M1 w a m (hE.aft a) q h1 (hk.weak a)⟩
  · subst e2
    exact ⟨μ, F, env, M, _, hM, hE, e1, hk⟩

/-! ### to see, to hold -/
/-- as RepD, but a list may be one that is still written -/
def RepA (S : Sta) (F H : Hp) (x : D) (w : V) : Prop :=
  match x with
  | .lst xs => ∃ a vs, w = V.ref a ∧ H a = some (.lst vs) ∧ RepL S F xs vs
  | x => RepD S F x w
theorem repA_of {F H : Hp} {x : D} {w : V} (e : Ex F H) (h : RepD S F x w) : RepA S F H x w := by
  cases x with
  | lst xs =>
    obtain ⟨a, vs, rfl, h1, h2⟩ := repD_lst h
    exact ⟨a, vs, rfl, e _ _ h1, h2⟩
  | _ => exact h
theorem see_rf (M : Mem) (n : Nat) : Val.see M (.rf n) = match M[n]? with | some (.lst xs) => some (.lst xs) | some (.frz xs) => some (.lst xs) | some (.tup xs) => some (.tup xs) | _ => none := rfl
theorem hold_rf (M : Mem) (n : Nat) : Val.hold M (.rf n) = match M[n]? with | some (.lst xs) => some (.lst xs, M.set n (.frz xs)) | some (.frz xs) => some (.lst xs, M) | some (.tup xs) => some (.tup xs, M) | _ => none := rfl
theorem see_ok {μ : Nat → Addr} {F H : Hp} {M : Mem} {v : Val} {w : V} {x : D} (hM : MemR S μ F M H) (h : RepV S F μ M.length v w) (e : v.see M = some x) : RepA S F H x w := by
  cases v with
  | d y =>
    have e : y = x := Option.some.inj e
    subst e
    exact repA_of hM.sub h
  | rf n =>
    obtain ⟨hn, rfl⟩ := (show n < M.length ∧ w = V.ref (μ n) from h)
    rw [see_rf] at e
    cases hc : M[n]? with
    | none => rw [hc] at e; cases e
    | some c =>
      have z := hM.cell n c hc
      rw [hc] at e
      cases c with
      | lst xs =>
        have e : D.lst xs = x := Option.some.inj e
        subst e
        obtain ⟨_, vs, h2, h3⟩ := z
        exact ⟨_, vs, rfl, h2, h3⟩
      | frz xs =>
        have e : D.lst xs = x := Option.some.inj e
        subst e
        obtain ⟨vs, h2, h3⟩ := z
        exact ⟨_, vs, rfl, hM.sub _ _ h2, h3⟩
      | tup xs =>
        have e : D.tup xs = x := Option.some.inj e
        subst e
        obtain ⟨vs, o, h2, _, h3⟩ := z
        exact repA_of hM.sub (rep_tup (.inl (.inr ⟨o, h2⟩)) h3)
      | ins c fs => cases e
      | gone => cases e
theorem hold_ok {μ : Nat → Addr} {F H : Hp} {M M1 : Mem} {v : Val} {w : V} {x : D} (hM : MemR S μ F M H) (h : RepV S F μ M.length v w) (e : v.hold M = some (x, M1)) :
    ∃ F1, MemR S μ F1 M1 H ∧ Aft μ F H M.length μ F1 H M1.length ∧ RepD S F1 x w := by
  cases v with
  | d y =>
    have e := Option.some.inj e
    cases e
    exact ⟨F, hM, Aft.refl, h⟩
  | rf n =>
    obtain ⟨hn, rfl⟩ := (show n < M.length ∧ w = V.ref (μ n) from h)
    rw [hold_rf] at e
    cases hc : M[n]? with
    | none => rw [hc] at e; cases e
    | some c =>
      rw [hc] at e
      cases c with
      | lst xs =>
        have e := Option.some.inj e
        cases e
        obtain ⟨F1, h1, h2, h3, h4⟩ := hM.freeze hc
        exact ⟨F1, h2, h3, h4⟩
      | frz xs =>
        have e := Option.some.inj e
        cases e
        obtain ⟨vs, h2, h3⟩ := hM.cell n _ hc
        exact ⟨F, hM, Aft.refl, rep_lst h2 h3⟩
      | tup xs =>
        have e := Option.some.inj e
        cases e
        obtain ⟨vs, o, h2, _, h3⟩ := hM.cell n _ hc
        exact ⟨F, hM, Aft.refl, rep_tup (.inl (.inr ⟨o, h2⟩)) h3⟩
      | ins c fs => cases e
      | gone => cases e
theorem holds_ok {μ : Nat → Addr} {H : Hp} : ∀ {vs : List Val} {F : Hp} {M M1 : Mem} {ws : List V} {xs : List D}, MemR S μ F M H → RepVs S F μ M.length vs ws → holds M vs = some (xs, M1) →
    ∃ F1, MemR S μ F1 M1 H ∧ Aft μ F H M.length μ F1 H M1.length ∧ RepL S F1 xs ws
  | [], F, M, M1, ws, xs, hM, h, e => by
    have e := Option.some.inj e
    cases e
    rw [h.nil]
    exact ⟨F, hM, Aft.refl, repL_emp⟩
  | v :: vs, F, M, M1, ws, xs, hM, h, e => by
    obtain ⟨w, us, rfl, h1, h2⟩ := h.cons
    unfold holds at e
    cases e1 : v.hold M with
    | none => rw [e1] at e; cases e
    | some p =>
      obtain ⟨x, M2⟩ := p
      rw [e1] at e
      obtain ⟨F2, m2, a2, r2⟩ := hold_ok hM h1 e1
      cases e2 : holds M2 vs with
      | none => simp only [e2] at e; cases e
      | some p =>
        obtain ⟨ys, M3⟩ := p
        simp only [e2] at e
        have e := Option.some.inj e
        cases e
        obtain ⟨F3, m3, a3, r3⟩ := holds_ok m2 (h2.aft a2) e2
        exact ⟨F3, m3, a2.trans a3, repL_mk (repD_ex a3.f x r2) r3⟩
theorem sees_cons {M : Mem} {v : Val} {vs : List Val} {xs : List D} (e : sees M (v :: vs) = some xs) : ∃ y ys, xs = y :: ys ∧ v.see M = some y ∧ sees M vs = some ys := by
  unfold sees at e
  cases e1 : v.see M with
  | none => rw [e1] at e; cases e
  | some y =>
    rw [e1] at e
    cases e2 : sees M vs with
    | none => simp only [e2] at e; cases e
    | some ys =>
      simp only [e2] at e
      exact ⟨y, ys, (Option.some.inj e).symm, rfl, rfl⟩
theorem sees_one {M : Mem} {v : Val} {xs : List D} (e : sees M [v] = some xs) : ∃ y, xs = [y] ∧ v.see M = some y := by
  obtain ⟨y, ys, rfl, h1, h2⟩ := sees_cons e
  have h2 : ([] : List D) = ys := Option.some.inj h2
  subst h2
  exact ⟨y, rfl, h1⟩
theorem sees_two {M : Mem} {v w : Val} {xs : List D} (e : sees M [v, w] = some xs) : ∃ y z, xs = [y, z] ∧ v.see M = some y ∧ w.see M = some z := by
  obtain ⟨y, ys, rfl, h1, h2⟩ := sees_cons e
  obtain ⟨z, rfl, h3⟩ := sees_one h2
  exact ⟨y, z, rfl, h1, h3⟩

/-! ### what an operation's rule must give -/
/-- a new or an old value z -/
def Gives (S : Sta) (F H : Hp) (z : D) (Q : VK) : Prop := ∀ F' H' w, Grow F F' H H' → RepD S F' z w → Q w H'
def Two0 (S : Sta) (o : Op) (r : R2) : Prop := ∀ (F H : Hp) (x y : V) (d e z : D) (Q : VK), Ex F H → RepA S F H d x → RepA S F H e y → opD o [d, e] = some z → Gives S F H z Q → r x y H Q
def One0 (S : Sta) (o : Op) (r : V → Hp → VK → Prop) : Prop := ∀ (F H : Hp) (x : V) (d z : D) (Q : VK), Ex F H → RepA S F H d x → opD o [d] = some z → Gives S F H z Q → r x H Q
theorem gives_of {μ : Nat → Addr} {F H : Hp} {M : Mem} {σ : Sl} {Q : VK} {z : D} (hM : MemR S μ F M H) (hk : KE S W μ F H M.length σ Q (.ok (.d z) M)) : Gives S F H z Q :=
  fun F' H' w g r => hk μ F' H' w g.aft (hM.grow g) r
theorem runOp_see {o : Op} (ho : o.keeps = false) {vs : List Val} {M : Mem} {r : R Val} (e : runOp o vs M = some r) : ∃ xs z, sees M vs = some xs ∧ opD o xs = some z ∧ r = .ok (.d z) M := by
  unfold runOp at e
  rw [ho, if_neg (by decide)] at e
  cases e1 : sees M vs with
  | none => rw [e1] at e; cases e
  | some xs =>
    simp only [e1] at e
    cases e2 : opD o xs with
    | none => rw [e2] at e; cases e
    | some z =>
      rw [e2] at e
      exact ⟨xs, z, rfl, e2, (Option.some.inj e).symm⟩
theorem rE_two {o : Op} {a b : IE} {r : R2} (ho : o.keeps = false) (h : Two0 S o r) {σ : Sl} {H : Hp} {Q : VK} (q : rE S C W (.op o (.cons a (.cons b .nil))) σ H Q) : tOp r (rE S C W a) (rE S C W b) σ H Q := by
  obtain ⟨μ, F, env, M, res, hM, hE, hd, hk⟩ := q
  unfold denE at hd
  rcases bnd_eq hd with ⟨vs, M3, e3, h3⟩ | ⟨x, M1, e1, e2⟩
  · -- both are values
    unfold denEs at e3
    rcases bnd_eq e3 with ⟨v, M1, e1, h1⟩ | ⟨x, M1, e1, e2⟩
    · refine ⟨μ, F, env, M, _, hM, hE, e1, fun μ1 F1 H1 w a1 m1 q1 => ?_⟩
      unfold denEs at h1
      rcases bnd_eq h1 with ⟨us, M2, e2, h2⟩ | ⟨x, M2, e2, h2⟩
      · rcases bnd_eq e2 with ⟨u, M4, e4, h4⟩ | ⟨x, M4, e4, h4⟩
        · refine ⟨μ1, F1, env, M1, _, m1, hE.aft a1, e4, fun μ2 F2 H2 w2 a2 m2 q2 => ?_⟩
          unfold denEs at h4
          have h4 := Option.some.inj h4
          cases h4
          have h2 := Option.some.inj h2
          cases h2
          obtain ⟨xs, z, s1, s2, rfl⟩ := runOp_see ho h3
          obtain ⟨d, e, rfl, sd, se⟩ := sees_two s1
          exact h F2 H2 w w2 d e z Q m2.sub (see_ok m2 (q1.aft a2) sd) (see_ok m2 q2 se) s2 (gives_of m2 (hk.weak (a1.trans a2)))
        · cases h4
      · cases h2
    · cases e2
  · subst e2
    -- an exception on the way
    unfold denEs at e1
    rcases bnd_eq e1 with ⟨v, M2, e3, h3⟩ | ⟨x, M2, e3, h3⟩
    · refine ⟨μ, F, env, M, _, hM, hE, e3, fun μ1 F1 H1 w a1 m1 q1 => ?_⟩
      unfold denEs at h3
      rcases bnd_eq h3 with ⟨us, M4, e4, h4⟩ | ⟨x, M4, e4, h4⟩
      · cases h4
      · rcases bnd_eq e4 with ⟨u, M5, e5, h5⟩ | ⟨x, M5, e5, h5⟩
        · unfold denEs at h5; cases h5
        · cases h5
          cases h4
          exact ⟨μ1, F1, env, M2, _, m1, hE.aft a1, e5, hk.weak a1⟩
    · cases h3
      exact ⟨μ, F, env, M, _, hM, hE, e3, hk⟩
theorem rE_one {o : Op} {a : IE} {r : V → Hp → VK → Prop} (ho : o.keeps = false) (h : One0 S o r) {σ : Sl} {H : Hp} {Q : VK} (q : rE S C W (.op o (.cons a .nil)) σ H Q) : tUn r (rE S C W a) σ H Q := by
  obtain ⟨μ, F, env, M, res, hM, hE, hd, hk⟩ := q
  unfold denE at hd
  rcases bnd_eq hd with ⟨vs, M3, e3, h3⟩ | ⟨x, M1, e1, e2⟩
  · unfold denEs at e3
    rcases bnd_eq e3 with ⟨v, M1, e1, h1⟩ | ⟨x, M1, e1, e2⟩
    · refine ⟨μ, F, env, M, _, hM, hE, e1, fun μ1 F1 H1 w a1 m1 q1 => ?_⟩
      unfold denEs at h1
      have h1 : R.ok [v] M1 = R.ok vs M3 := Option.some.inj h1
      cases h1
      obtain ⟨xs, z, s1, s2, rfl⟩ := runOp_see ho h3
      obtain ⟨d, rfl, sd⟩ := sees_one s1
      exact h F1 H1 w d z Q m1.sub (see_ok m1 q1 sd) s2 (gives_of m1 (hk.weak a1))
    · cases e2
  · subst e2
    unfold denEs at e1
    rcases bnd_eq e1 with ⟨v, M2, e3, h3⟩ | ⟨x, M2, e3, h3⟩
    · unfold denEs at h3; cases h3
    · cases h3
      exact ⟨μ, F, env, M, _, hM, hE, e3, hk⟩
end
end PyI

/-! PyI 4: names, arguments, displays, calls, truth. -/
namespace PyI
open PySem PySem.Spec PyProof.Rows L2
open Evl (Ex)
section
variable {S : Sta} {C : Orc} {W : WX} {X : Cx}

/-! ### names, constants -/
theorem pe_varI {i : Nat} {x : Str} {pos : Pos} (hN : X.N[i]? = some x) (hv : Vis X.env.scope x) (hd : (x == ("__debug__" : Str)) = false) (hc : (x == ("__classdict__" : Str)) = false) : PE X (.Name x pos) (rE S C W (.var i)) := by
  refine peI (pe_var hN hv hd hc) fun σ H Q q => ?_
  obtain ⟨μ, F, env, M, r, hM, hE, hd, hk⟩ := q
  unfold denE at hd
  cases e : env[i]? with
  | none => rw [e] at hd; cases hd
  | some o =>
    cases o with
    | none => rw [e] at hd; cases hd
    | some v =>
      rw [e] at hd
      have hd := Option.some.inj hd
      subst hd
      obtain ⟨w, h1, h2⟩ := hE.at_ i v e
      exact ⟨w, h1, hk μ F H w Aft.refl hM h2⟩
theorem rE_cst {x : D} {v : V} (h : ∀ F, RepD S F x v) {σ : Sl} {H : Hp} {Q : VK} (q : rE S C W (.cst x) σ H Q) : tC v σ H Q := by
  obtain ⟨μ, F, env, M, r, hM, hE, hd, hk⟩ := q
  unfold denE at hd
  have hd := Option.some.inj hd
  subst hd
  exact hk μ F H v Aft.refl hM (h F)

/-! ### arguments -/
theorem star_no {e : Expr} {es : List Expr} {env : PySem.Env} (h : ∀ y p, e ≠ .Starred y p) : starEach (e :: es) env = (false, eval e env) :: starEach es env := by
  cases e <;> first | rfl | exact absurd rfl (h _ _)
theorem pa_nilI : PA X [] (rA S C W .nil) := by
  refine paI pa_nil fun σ H Q q => ?_
  obtain ⟨μ, F, env, M, r, hM, hE, hd, hk⟩ := q
  unfold denEs at hd
  have hd := Option.some.inj hd
  subst hd
  exact hk μ F H [] Aft.refl hM trivial
theorem pa_consI {e : Expr} {es : List Expr} {ie : IE} {ies : IEs} (he : PE X e (rE S C W ie)) (hr : PA X es (rA S C W ies)) (hs : ∀ y p, e ≠ .Starred y p) : PA X (e :: es) (rA S C W (.cons ie ies)) := by
  refine paI (pa_cons he hr (star_no hs)) fun σ H Q q => ?_
  obtain ⟨μ, F, env, M, r, hM, hE, hd, hk⟩ := q
  unfold denEs at hd
  rcases bnd_eq hd with ⟨v, M1, e1, h1⟩ | ⟨x, M1, e1, e2⟩
  · refine ⟨μ, F, env, M, _, hM, hE, e1, fun μ1 F1 H1 w a1 m1 q1 => ?_⟩
    rcases bnd_eq h1 with ⟨us, M2, e2, h2⟩ | ⟨x, M2, e2, h2⟩
    · refine ⟨μ1, F1, env, M1, _, m1, hE.aft a1, e2, fun μ2 F2 H2 ws a2 m2 q2 => ?_⟩
      have h2 := Option.some.inj h2
      subst h2
      exact hk μ2 F2 H2 (w :: ws) (a1.trans a2) m2 ⟨q1.aft a2, q2⟩
    · subst h2
      exact ⟨μ1, F1, env, M1, _, m1, hE.aft a1, e2, hk.weak a1⟩
  · subst e2
    exact ⟨μ, F, env, M, _, hM, hE, e1, hk⟩

/-! ### displays -/
theorem holdRun {o : Op} (ho : o.keeps = true) {vs : List Val} {M : Mem} {r : R Val} (e : runOp o vs M = some r) : ∃ xs M1 z, holds M vs = some (xs, M1) ∧ opD o xs = some z ∧ r = .ok (.d z) M1 := by
  unfold runOp at e
  rw [ho, if_pos rfl] at e
  cases e1 : holds M vs with
  | none => rw [e1] at e; cases e
  | some p =>
    obtain ⟨xs, M1⟩ := p
    simp only [e1] at e
    cases e2 : opD o xs with
    | none => rw [e2] at e; cases e
    | some z =>
      rw [e2] at e
      exact ⟨xs, M1, z, rfl, e2, (Option.some.inj e).symm⟩
theorem opD_tup {xs : List D} {z : D} (h : opD .tup xs = some z) : xs.length ≤ sizeLine ∧ z = .tup xs := by
  have h : (if xs.length ≤ sizeLine then some (D.tup xs) else none) = some z := h
  split at h
  · rename_i q; exact ⟨q, (Option.some.inj h).symm⟩
  · cases h
theorem opD_lst {xs : List D} {z : D} (h : opD .lst xs = some z) : xs.length ≤ sizeLine ∧ z = .lst xs := by
  have h : (if xs.length ≤ sizeLine then some (D.lst xs) else none) = some z := h
  split at h
  · rename_i q; exact ⟨q, (Option.some.inj h).symm⟩
  · cases h
theorem rE_tup {es : IEs} {σ : Sl} {H : Hp} {Q : VK} (q : rE S C W (.op .tup es) σ H Q) : tTup (rA S C W es) σ H Q := by
  obtain ⟨μ, F, env, M, r, hM, hE, hd, hk⟩ := q
  unfold denE at hd
  refine rA_bnd hM hE hd hk fun μ1 F1 H1 vs M1 ws a1 m1 e1 q1 h1 k1 => ?_
  obtain ⟨xs, M2, z, s1, s2, rfl⟩ := holdRun rfl h1
  obtain ⟨F2, m2, a2, r2⟩ := holds_ok m1 q1 s1
  obtain ⟨hz, rfl⟩ := opD_tup s2
  refine ⟨by rw [← repL_len r2]; exact hz, fun p hp => ?_⟩
  have g := Grow.one m2.sub (.tup ws) hp
  exact k1 μ1 (upd F2 p (.tup ws)) _ (.ref p) (a2.trans g.aft) (m2.grow g) (rep_tup (Evl.st_of upd_same) (repL_ex g.f _ r2))
theorem rE_lst {es : IEs} {σ : Sl} {H : Hp} {Q : VK} (q : rE S C W (.op .lst es) σ H Q) : tLst (rA S C W es) σ H Q := by
  obtain ⟨μ, F, env, M, r, hM, hE, hd, hk⟩ := q
  unfold denE at hd
  refine rA_bnd hM hE hd hk fun μ1 F1 H1 vs M1 ws a1 m1 e1 q1 h1 k1 => ?_
  obtain ⟨xs, M2, z, s1, s2, rfl⟩ := holdRun rfl h1
  obtain ⟨F2, m2, a2, r2⟩ := holds_ok m1 q1 s1
  obtain ⟨hz, rfl⟩ := opD_lst s2
  refine ⟨by rw [← repL_len r2]; exact hz, fun p hp => ?_⟩
  have g := Grow.one m2.sub (.lst ws) hp
  exact k1 μ1 (upd F2 p (.lst ws)) _ (.ref p) (a2.trans g.aft) (m2.grow g) (rep_lst upd_same (repL_ex g.f _ r2))
theorem rE_emp {σ : Sl} {H : Hp} {Q : VK} (q : rE S C W (.op .emp .nil) σ H Q) : ∀ d, H d = none → Q (.ref d) (upd H d (.dK [])) := by
  obtain ⟨μ, F, env, M, r, hM, hE, hd, hk⟩ := q
  unfold denE denEs at hd
  cases hd
  intro p hp
  have g := Grow.one hM.sub (.dK []) hp
  exact hk μ _ _ (.ref p) g.aft (hM.grow g) (rep_emp (S := S) upd_same)
theorem rE_mkl {es : IEs} {σ : Sl} {H : Hp} {Q : VK} (q : rE S C W (.mk .lst es) σ H Q) : tLst (rA S C W es) σ H Q := by
  obtain ⟨μ, F, env, M, r, hM, hE, hd, hk⟩ := q
  unfold denE at hd
  refine rA_bnd hM hE hd hk fun μ1 F1 H1 vs M1 ws a1 m1 e1 q1 h1 k1 => ?_
  unfold runMk at h1
  cases s1 : holds M1 vs with
  | none => rw [s1] at h1; cases h1
  | some p =>
    obtain ⟨xs, M2⟩ := p
    simp only [s1] at h1
    cases s2 : opD .lst xs with
    | none => rw [s2] at h1; cases h1
    | some z =>
      obtain ⟨hz, rfl⟩ := opD_lst s2
      rw [s2] at h1
      have h1 := Option.some.inj h1
      subst h1
      obtain ⟨F2, m2, a2, r2⟩ := holds_ok m1 q1 s1
      refine ⟨by rw [← repL_len r2]; exact hz, fun p hp => ?_⟩
      obtain ⟨m3, a3⟩ := m2.cellNew (o := .lst ws) (c := .lst xs) hp ⟨Evl.fresh_back m2.sub hp, ws, upd_same, r2⟩
      refine k1 _ F2 _ (.ref p) (a2.trans a3) m3 ⟨by simp, ?_⟩
      show V.ref p = V.ref (if M2.length = M2.length then p else μ1 M2.length)
      rw [if_pos rfl]

/-! ### built-in functions of several arguments -/
def RepAs (S : Sta) (F H : Hp) : List D → List V → Prop
  | [], [] => True
  | x :: xs, v :: vs => RepA S F H x v ∧ RepAs S F H xs vs
  | [], _ :: _ => False
  | _ :: _, [] => False
theorem repAs_one {F H : Hp} {x : D} {ws : List V} (h : RepAs S F H [x] ws) : ∃ w, ws = [w] ∧ RepA S F H x w := by
  cases ws with
  | nil => exact (show False from h).elim
  | cons w ws =>
    cases ws with
    | nil => exact ⟨w, rfl, h.1⟩
    | cons u us => exact (show False from h.2).elim
theorem repAs_two {F H : Hp} {x y : D} {ws : List V} (h : RepAs S F H [x, y] ws) : ∃ v w, ws = [v, w] ∧ RepA S F H x v ∧ RepA S F H y w := by
  cases ws with
  | nil => exact (show False from h).elim
  | cons w ws =>
    obtain ⟨u, rfl, h2⟩ := repAs_one (ws := ws) h.2
    exact ⟨w, u, rfl, h.1, h2⟩
theorem sees_ok {μ : Nat → Addr} {F H : Hp} {M : Mem} (hM : MemR S μ F M H) : ∀ {vs : List Val} {ws : List V} {xs : List D}, RepVs S F μ M.length vs ws → sees M vs = some xs → RepAs S F H xs ws
  | [], ws, xs, h, e => by
    have e := Option.some.inj e
    subst e
    rw [h.nil]
    trivial
  | v :: vs, ws, xs, h, e => by
    obtain ⟨w, us, rfl, h1, h2⟩ := h.cons
    obtain ⟨y, ys, rfl, e1, e2⟩ := sees_cons e
    exact ⟨see_ok hM h1 e1, sees_ok hM h2 e2⟩
def Many0 (S : Sta) (o : Op) (r : List V → Hp → VK → Prop) : Prop := ∀ (F H : Hp) (ws : List V) (xs : List D) (z : D) (Q : VK), Ex F H → RepAs S F H xs ws → opD o xs = some z → Gives S F H z Q → r ws H Q
theorem rE_many {o : Op} {es : IEs} {r : List V → Hp → VK → Prop} (ho : o.keeps = false) (h : Many0 S o r) {σ : Sl} {H : Hp} {Q : VK} (q : rE S C W (.op o es) σ H Q) : tCB r (rA S C W es) σ H Q := by
  obtain ⟨μ, F, env, M, res, hM, hE, hd, hk⟩ := q
  unfold denE at hd
  refine rA_bnd hM hE hd hk fun μ1 F1 H1 vs M1 ws a1 m1 e1 q1 h1 k1 => ?_
  obtain ⟨xs, z, s1, s2, rfl⟩ := runOp_see ho h1
  exact h F1 H1 ws xs z Q m1.sub (sees_ok m1 q1 s1) s2 (gives_of m1 k1)

/-! ### calls of defs -/
def KF (S : Sta) (μ : Nat → Addr) (F H : Hp) (k : Nat) (Q : VK) (E : XK) : R Val → Prop
  | .ok v M => ∀ μ' F' H' w, Aft μ F H k μ' F' H' M.length → MemR S μ' F' M H' → RepV S F' μ' M.length v w → Q w H'
  | .ex x M => ∀ μ' F' H' cls d, Aft μ F H k μ' F' H' M.length → MemR S μ' F' M H' → RepX S F' x cls d → E cls d H'
/-- a def's promise: what the oracle says -/
def spF (S : Sta) (C : Orc) (f : Nat) : Sp := fun vs H Q E => ∃ μ F as M r, MemR S μ F M H ∧ RepVs S F μ M.length as vs ∧ C f as M = some r ∧ KF S μ F H M.length Q E r
theorem rE_call {f : Nat} {es : IEs} {σ : Sl} {H : Hp} {Q : VK} (q : rE S C W (.call f es) σ H Q) : rA S C W es σ H fun vs H1 => spF S C f vs H1 Q (WE W σ) := by
  obtain ⟨μ, F, env, M, res, hM, hE, hd, hk⟩ := q
  unfold denE at hd
  refine rA_bnd hM hE hd hk fun μ1 F1 H1 vs M1 ws a1 m1 e1 q1 h1 k1 => ?_
  refine ⟨μ1, F1, vs, M1, res, m1, q1, h1, ?_⟩
  cases res with
  | ok v M2 => exact k1
  | ex x M2 => exact k1
theorem run_own {CX : CXT} {k : Nat} {f : Addr} {sp : Sp} {E : Sl → XK} {pins : List (Addr × Obj)} {σ : Sl} {H : Hp} {s : Shared} {Q : VK} {us : List Value} {vs : List V}
    (G : FnR X.prog X.w X.K X.mg X.base CX k f sp) (hr : Room k X.A) (hx : ∀ σ, PassesAt CX X σ (E σ)) (I : Inv X pins σ H s) (r : Vals vs us) (h : sp vs H Q (E σ)) :
    wpAny (model X.prog X.w) X.A (call (.ref f) us) (EP X pins σ Q) X.xe s := by
  refine wpAny_call (codeAny_mono (G X.A X.stack s H us vs Q (E σ) hr I.env0 r h) fun res s1 hq => ?_)
  rcases res with e | fl
  · exact hx σ pins H s e s1 I hq
  · cases fl with
    | ret u => exact I.after hq
    | next | brk | cont => exact False.elim hq
theorem pe_own {CX : CXT} {k : Nat} {f : Addr} {sp : Sp} {E : Sl → XK} {x : Str} {e : Expr} {es : List Expr} {t : TA} {p pos : Pos} (G : FnR X.prog X.w X.K X.mg X.base CX k f sp) (hr : Room k X.A) (hg : Gl X x) (hm : X.mg x = some (.ref f))
    (hk : PySem.W.keepIn X.K (.ref f) = true) (hx : ∀ σ, PassesAt CX X σ (E σ)) (ha : PA X (e :: es) t) (hdb : (x == ("__debug__" : Str)) = false) (he : starEach (e :: es) X.env = (false, eval e X.env) :: starEach es X.env)
    (hpl : (backTo pos (starEach es X.env)).any (·.1) = false) : PE X (.Call (.Name x p) (e :: es) [] pos) (fun σ H Q => t σ H fun vs H1 => sp vs H1 Q (E σ)) := by
  refine ⟨fun pins s σ H Q I h => wpAny_Call_Name_kw (ld_glob I hg hm ?_ hdb)⟩
  exact PySem.W.callWith_K (h₀ := X.base) I.ok.mod.kin hk (thn (ha.run pos pins s σ H _ I h) fun us s1 ⟨vs, H1, I1, r, q⟩ => ⟨I1.kIn, run_own G hr hx I1 r q⟩) he hpl
theorem pe_own0 {CX : CXT} {k : Nat} {f : Addr} {sp : Sp} {E : Sl → XK} {x : Str} {p pos : Pos} (G : FnR X.prog X.w X.K X.mg X.base CX k f sp) (hr : Room k X.A) (hg : Gl X x) (hm : X.mg x = some (.ref f))
    (hk : PySem.W.keepIn X.K (.ref f) = true) (hx : ∀ σ, PassesAt CX X σ (E σ)) (hdb : (x == ("__debug__" : Str)) = false) : PE X (.Call (.Name x p) [] [] pos) (fun σ H Q => sp [] H Q (E σ)) := by
  refine ⟨fun pins s σ H Q I h => wpAny_Call_Name_kw (ld_glob I hg hm ?_ hdb)⟩
  exact PySem.W.callWith_K0 I.kIn hk (run_own (us := []) G hr hx I .nil h)

/-! ### truth -/
theorem asB_rep {F : Hp} {μ : Nat → Addr} {k : Nat} {v : Val} {w : V} {b : Bool} (h : RepV S F μ k v w) (e : asB v = some b) : w = .bl b := by
  have e := asB_eq e
  subst e
  exact repD_bl (S := S) (F := F) h
theorem rE_and {a b : IE} {σ : Sl} {H : Hp} {Q : VK} (q : rE S C W (.and a b) σ H Q) : tAndV (rE S C W a) (rE S C W b) σ H Q := by
  obtain ⟨μ, F, env, M, r, hM, hE, hd, hk⟩ := q
  unfold denE at hd
  refine rE_bnd hM hE hd hk fun μ1 F1 H1 v M1 w a1 m1 e1 q1 h1 k1 => ?_
  cases hv : asB v with
  | none => rw [hv] at h1; cases h1
  | some c =>
    simp only [hv] at h1
    refine ⟨c, asB_rep q1 hv, ?_⟩
    cases c with
    | true =>
      rw [if_pos rfl]
      refine rE_bnd m1 e1 h1 k1 fun μ2 F2 H2 u M2 w2 a2 m2 e2 q2 h2 k2 => ?_
      cases hu : asB u with
      | none => rw [hu] at h2; cases h2
      | some c =>
        simp only [hu] at h2
        have h2 := Option.some.inj h2
        subst h2
        rw [asB_rep q2 hu]
        exact k2 μ2 F2 H2 (.bl c) Aft.refl m2 (rep_bl (S := S) (F := F2))
    | false =>
      rw [if_neg (by decide)]
      have h1 := Option.some.inj h1
      subst h1
      exact k1 μ1 F1 H1 _ Aft.refl m1 (rep_bl (S := S) (F := F1))
theorem rE_or {a b : IE} {σ : Sl} {H : Hp} {Q : VK} (q : rE S C W (.or a b) σ H Q) : tOrV (rE S C W a) (rE S C W b) σ H Q := by
  obtain ⟨μ, F, env, M, r, hM, hE, hd, hk⟩ := q
  unfold denE at hd
  refine rE_bnd hM hE hd hk fun μ1 F1 H1 v M1 w a1 m1 e1 q1 h1 k1 => ?_
  cases hv : asB v with
  | none => rw [hv] at h1; cases h1
  | some c =>
    simp only [hv] at h1
    refine ⟨c, asB_rep q1 hv, ?_⟩
    cases c with
    | false =>
      rw [if_neg (by decide)]
      refine rE_bnd m1 e1 h1 k1 fun μ2 F2 H2 u M2 w2 a2 m2 e2 q2 h2 k2 => ?_
      cases hu : asB u with
      | none => rw [hu] at h2; cases h2
      | some c =>
        simp only [hu] at h2
        have h2 := Option.some.inj h2
        subst h2
        rw [asB_rep q2 hu]
        exact k2 μ2 F2 H2 (.bl c) Aft.refl m2 (rep_bl (S := S) (F := F2))
    | true =>
      rw [if_pos rfl]
      have h1 := Option.some.inj h1
      subst h1
      exact k1 μ1 F1 H1 _ Aft.refl m1 (rep_bl (S := S) (F := F1))
theorem rE_not {a : IE} {σ : Sl} {H : Hp} {Q : VK} (q : rE S C W (.not a) σ H Q) : tNotV (rE S C W a) σ H Q := by
  obtain ⟨μ, F, env, M, r, hM, hE, hd, hk⟩ := q
  unfold denE at hd
  refine rE_bnd hM hE hd hk fun μ1 F1 H1 v M1 w a1 m1 e1 q1 h1 k1 => ?_
  cases hv : asB v with
  | none => rw [hv] at h1; cases h1
  | some c =>
    simp only [hv] at h1
    have h1 := Option.some.inj h1
    subst h1
    exact ⟨c, asB_rep q1 hv, k1 μ1 F1 H1 _ Aft.refl m1 (rep_bl (S := S) (F := F1))⟩
/-- a test's reading, from the value's -/
theorem rB_val {a : IE} {σ : Sl} {H : Hp} {Q : Bool → Hp → Prop} (q : rB S C W a σ H Q) : rE S C W a σ H fun x H' => ∃ k, x = .bl k ∧ Q k H' := by
  obtain ⟨μ, F, env, M, r, hM, hE, hd, hk⟩ := q
  unfold denB at hd
  rcases bnd_eq hd with ⟨v, M1, e1, h1⟩ | ⟨x, M1, e1, e2⟩
  · refine ⟨μ, F, env, M, _, hM, hE, e1, fun μ1 F1 H1 w a1 m1 q1 => ?_⟩
    cases hv : asB v with
    | none => rw [hv] at h1; cases h1
    | some c =>
      simp only [hv] at h1
      have h1 := Option.some.inj h1
      subst h1
      exact ⟨c, asB_rep q1 hv, hk μ1 F1 H1 a1 m1⟩
  · subst e2
    exact ⟨μ, F, env, M, _, hM, hE, e1, hk⟩
theorem pt_valI {e : Expr} {ie : IE} (h : PE X e (rE S C W ie)) (he : ∀ whole, isTrue e X.env whole = (do let v ← whole; standAt e.pos; holding [v] (truthy v))) : PT X e (rB S C W ie) :=
  ptI (pt_val h he) fun _ _ _ q => rB_val q
/-- a test ahead of the rest -/
theorem rB_bnd {e : IE} {σ : Sl} {H : Hp} {μ : Nat → Addr} {F : Hp} {env : Env} {M : Mem} {β : Type} {k : Bool → Mem → Option (R β)} {r : R β} {Q1 : Bool → Hp → Prop} {KK : (Nat → Addr) → Hp → Hp → Nat → R β → Prop}
    (hM : MemR S μ F M H) (hE : EnvR S μ F M.length env σ) (hd : bnd (denB C e env M) k = some r) (hk : KK μ F H M.length r) (weak : ∀ μ1 F1 H1 k1, Aft μ F H M.length μ1 F1 H1 k1 → KK μ1 F1 H1 k1 r)
    (ex : ∀ x M1, r = .ex x M1 → KB S W μ F H M.length σ Q1 (.ex x M1))
    (next : ∀ μ1 F1 H1 b M1, Aft μ F H M.length μ1 F1 H1 M1.length → MemR S μ1 F1 M1 H1 → EnvR S μ1 F1 M1.length env σ → k b M1 = some r → KK μ1 F1 H1 M1.length r → Q1 b H1) :
    rB S C W e σ H Q1 := by
  rcases bnd_eq hd with ⟨b, M1, e1, h1⟩ | ⟨x, M1, e1, e2⟩
  · exact ⟨μ, F, env, M, _, hM, hE, e1, fun μ1 F1 H1 a m => next μ1 F1 H1 b M1 a m (hE.aft a) h1 (weak _ _ _ _ a)⟩
  · exact ⟨μ, F, env, M, _, hM, hE, e1, ex x M1 e2⟩
/-- how the test of a combination reads -/
theorem denB_not {a : IE} {env : Env} {M : Mem} : denB C (.not a) env M = bnd (denB C a env M) fun b M1 => some (.ok (!b) M1) := by
  unfold denB
  rw [denE]
  cases denE C a env M with
  | none => rfl
  | some r =>
    cases r with
    | ex x M1 => rfl
    | ok v M1 =>
      simp only [bnd_ok]
      cases asB v with
      | none => rfl
      | some c => rfl
theorem denB_and {a b : IE} {env : Env} {M : Mem} : denB C (.and a b) env M = bnd (denB C a env M) fun c M1 => if c = true then denB C b env M1 else some (.ok false M1) := by
  unfold denB
  rw [denE]
  cases denE C a env M with
  | none => rfl
  | some r =>
    cases r with
    | ex x M1 => rfl
    | ok v M1 =>
      simp only [bnd_ok]
      cases asB v with
      | none => rfl
      | some c =>
        cases c with
        | false => rfl
        | true =>
          simp only [bnd_ok, if_true]
          cases denE C b env M1 with
          | none => rfl
          | some r2 =>
            cases r2 with
            | ex x M2 => rfl
            | ok w M2 =>
              simp only [bnd_ok]
              cases asB w <;> rfl
theorem denB_or {a b : IE} {env : Env} {M : Mem} : denB C (.or a b) env M = bnd (denB C a env M) fun c M1 => if c = true then some (.ok true M1) else denB C b env M1 := by
  unfold denB
  rw [denE]
  cases denE C a env M with
  | none => rfl
  | some r =>
    cases r with
    | ex x M1 => rfl
    | ok v M1 =>
      simp only [bnd_ok]
      cases asB v with
      | none => rfl
      | some c =>
        cases c with
        | true => rfl
        | false =>
          simp only [bnd_ok, Bool.false_eq_true, if_false]
          cases denE C b env M1 with
          | none => rfl
          | some r2 =>
            cases r2 with
            | ex x M2 => rfl
            | ok w M2 =>
              simp only [bnd_ok]
              cases asB w <;> rfl
theorem rB_not {a : IE} {σ : Sl} {H : Hp} {Q : Bool → Hp → Prop} (q : rB S C W (.not a) σ H Q) : tNot (rB S C W a) σ H Q := by
  obtain ⟨μ, F, env, M, r, hM, hE, hd, hk⟩ := q
  rw [denB_not] at hd
  refine rB_bnd (KK := fun μ F H k r => KB S W μ F H k σ Q r) hM hE hd hk (fun _ _ _ _ a => hk.weak a) (fun x M1 e => by subst e; exact hk) fun μ1 F1 H1 b M1 a1 m1 e1 h1 k1 => ?_
  have h1 := Option.some.inj h1
  subst h1
  exact k1 μ1 F1 H1 Aft.refl m1
theorem rB_and {a b : IE} {σ : Sl} {H : Hp} {Q : Bool → Hp → Prop} (q : rB S C W (.and a b) σ H Q) : tAnd (rB S C W a) (rB S C W b) σ H Q := by
  obtain ⟨μ, F, env, M, r, hM, hE, hd, hk⟩ := q
  rw [denB_and] at hd
  refine rB_bnd (KK := fun μ F H k r => KB S W μ F H k σ Q r) hM hE hd hk (fun _ _ _ _ a => hk.weak a) (fun x M1 e => by subst e; exact hk) fun μ1 F1 H1 c M1 a1 m1 e1 h1 k1 => ?_
  cases c with
  | true => exact ⟨μ1, F1, env, M1, r, m1, e1, h1, k1⟩
  | false =>
    have h1 := Option.some.inj h1
    subst h1
    exact k1 μ1 F1 H1 Aft.refl m1
theorem rB_or {a b : IE} {σ : Sl} {H : Hp} {Q : Bool → Hp → Prop} (q : rB S C W (.or a b) σ H Q) : tOr (rB S C W a) (rB S C W b) σ H Q := by
  obtain ⟨μ, F, env, M, r, hM, hE, hd, hk⟩ := q
  rw [denB_or] at hd
  refine rB_bnd (KK := fun μ F H k r => KB S W μ F H k σ Q r) hM hE hd hk (fun _ _ _ _ a => hk.weak a) (fun x M1 e => by subst e; exact hk) fun μ1 F1 H1 c M1 a1 m1 e1 h1 k1 => ?_
  cases c with
  | false => exact ⟨μ1, F1, env, M1, r, m1, e1, h1, k1⟩
  | true =>
    have h1 := Option.some.inj h1
    subst h1
    exact k1 μ1 F1 H1 Aft.refl m1
/-- a if c else b -/
theorem denE_ife {c a b : IE} {env : Env} {M : Mem} : denE C (.ife c a b) env M = bnd (denB C c env M) fun t M1 => if t = true then denE C a env M1 else denE C b env M1 := by
  unfold denB
  rw [denE]
  cases denE C c env M with
  | none => rfl
  | some r =>
    cases r with
    | ex x M1 => rfl
    | ok v M1 =>
      simp only [bnd_ok]
      cases asB v with
      | none => rfl
      | some c => cases c <;> rfl
theorem rE_ife {c a b : IE} {σ : Sl} {H : Hp} {Q : VK} (q : rE S C W (.ife c a b) σ H Q) : tIf (rB S C W c) (rE S C W a) (rE S C W b) σ H Q := by
  obtain ⟨μ, F, env, M, r, hM, hE, hd, hk⟩ := q
  rw [denE_ife] at hd
  refine rB_bnd (KK := fun μ F H k r => KE S W μ F H k σ Q r) hM hE hd hk (fun _ _ _ _ a => hk.weak a) (fun x M1 e => by subst e; exact hk) fun μ1 F1 H1 t M1 a1 m1 e1 h1 k1 => ?_
  cases t with
  | true => exact ⟨μ1, F1, env, M1, r, m1, e1, h1, k1⟩
  | false => exact ⟨μ1, F1, env, M1, r, m1, e1, h1, k1⟩
end
end PyI

/-! PyI 5: the operations, one by one. -/
namespace PyI
open PySem PySem.Spec PyProof.Rows L2
open Evl (Ex)
section
variable {S : Sta} {C : Orc} {W : WX} {X : Cx}
theorem opR_or {f : Value → Value → Sem Value} {r r' : R2} (h : OpR X f r) (h' : OpR X f r') : OpR X f (fun x y H Q => r x y H Q ∨ r' x y H Q) := by
  intro pins s σ H x y v u Q I rx ry q
  rcases q with q | q
  · exact h pins s σ H x y v u Q I rx ry q
  · exact h' pins s σ H x y v u Q I rx ry q
theorem Gives.now {F H : Hp} {z : D} {Q : VK} {v : V} (h : Gives S F H z Q) (e : Ex F H) (r : RepD S F z v) : Q v H := h F H v (Grow.same e) r
/-- two ints, one way to the result -/
theorem opD_int2 {o : Op} {d e z : D} (h : opD o [d, e] = some z) (ho : ∀ d e, (∀ i j, ¬ (d = .int i ∧ e = .int j)) → opD o [d, e] = none) : ∃ i j, d = .int i ∧ e = .int j := by
  by_cases q : ∃ i j, d = D.int i ∧ e = D.int j
  · exact q
  · rw [ho d e fun i j z => q ⟨i, j, z.1, z.2⟩] at h
    cases h
theorem int2_none {o : Op} (h : o = .sub ∨ o = .fdiv ∨ o = .mod ∨ o = .pow ∨ o = .le ∨ o = .ge) : ∀ d e : D, (∀ i j, ¬ (d = .int i ∧ e = .int j)) → opD o [d, e] = none := by
  intro d e q
  rcases h with rfl | rfl | rfl | rfl | rfl | rfl <;>
    (cases d with
    | int i =>
      cases e with
      | int j => exact absurd ⟨rfl, rfl⟩ (q i j)
      | _ => rfl
    | _ => rfl)
def rAdd3 (K : PySem.W.Frag) : R2 := fun x y H Q => (∃ i j, x = .str i ∧ y = .str j ∧ i.length + j.length ≤ sizeLine ∧ Q (.str (i ++ j)) H) ∨ (rI0 (fun i j => .int (i + j)) x y H Q ∨ (rCat x y H Q ∨ rCatA K x y H Q))
theorem two_add : Two0 S .add (rAdd3 S.K) := by
  intro F H x y d e z Q ex hx hy h g
  cases d with
  | int i =>
    cases e with
    | int j =>
      have h : some (D.int (i + j)) = some z := h
      cases h
      exact .inr (.inl ⟨i, j, repD_int (S := S) (F := F) hx, repD_int (S := S) (F := F) hy, g.now ex (rep_int (S := S) (F := F))⟩)
    | _ => cases h
  | str a =>
    cases e with
    | str b =>
      have h : (if a.length + b.length ≤ sizeLine then some (D.str (a ++ b)) else none) = some z := h
      split at h
      · rename_i hz
        cases h
        exact .inl ⟨a, b, repD_str (S := S) (F := F) hx, repD_str (S := S) (F := F) hy, hz, g.now ex (rep_str (S := S) (F := F))⟩
      · cases h
    | _ => cases h
  | lst xs =>
    cases e with
    | lst ys =>
      have h : (if xs.length + ys.length ≤ sizeLine then some (D.lst (xs ++ ys)) else none) = some z := h
      split at h
      · rename_i hz
        cases h
        obtain ⟨a, vs, rfl, h1, h2⟩ := hx
        obtain ⟨b, ws, rfl, k1, k2⟩ := hy
        refine .inr (.inr (.inl ⟨a, b, vs, ws, rfl, rfl, h1, k1, by rw [← repL_len h2, ← repL_len k2]; exact hz, fun p hp => ?_⟩))
        have gr := Grow.one ex (.lst (vs ++ ws)) hp
        exact g _ _ _ gr (rep_lst upd_same (repL_ex gr.f _ (repL_app h2 k2)))
      · cases h
    | _ => cases h
  | tup xs =>
    cases e with
    | tup ys =>
      have h : (if xs.length + ys.length ≤ sizeLine then some (D.tup (xs ++ ys)) else none) = some z := h
      split at h
      · rename_i hz
        cases h
        obtain ⟨a, vs, rfl, h1, h2⟩ := repD_tup hx
        obtain ⟨b, ws, rfl, k1, k2⟩ := repD_tup hy
        refine .inr (.inr (.inr ⟨a, b, vs, ws, rfl, rfl, Evl.ex_t ex h1, Evl.ex_t ex k1, by rw [← repL_len h2, ← repL_len k2]; exact hz, fun e => ?_, fun _ e => ?_, fun _ _ p hp => ?_⟩))
        · subst e
          have z : xs = [] := List.length_eq_zero_iff.mp (by rw [repL_len h2] <;> rfl)
          subst z
          exact g.now ex (rep_tup k1 k2)
        · subst e
          have z : ys = [] := List.length_eq_zero_iff.mp (by rw [repL_len k2] <;> rfl)
          subst z
          rw [List.append_nil] at g
          exact g.now ex (rep_tup h1 h2)
        · have gr := Grow.one ex (.tup (vs ++ ws)) hp
          exact g _ _ _ gr (rep_tup (Evl.st_of upd_same) (repL_ex gr.f _ (repL_app h2 k2)))
      · cases h
    | _ => cases h
  | _ => cases h
theorem two_sub : Two0 S .sub (rI0 fun i j => .int (i - j)) := by
  intro F H x y d e z Q ex hx hy h g
  obtain ⟨i, j, rfl, rfl⟩ := opD_int2 h (int2_none (by simp))
  have h : some (D.int (i - j)) = some z := h
  cases h
  exact ⟨i, j, repD_int (S := S) (F := F) hx, repD_int (S := S) (F := F) hy, g.now ex (rep_int (S := S) (F := F))⟩
theorem mulOk_or {i j : Int} (h : mulOk i j = true) : CMul i j ∨ CMulW i j := by
  unfold mulOk at h
  simp only [Bool.or_eq_true, Bool.and_eq_true, decide_eq_true_eq] at h
  rcases h with (h | h) | h
  · exact .inl (.inl h)
  · exact .inl (.inr h)
  · exact .inr h
theorem repL_rep {F : Hp} {xs : List D} {vs : List V} (h : RepL S F xs vs) : ∀ n : Nat, RepL S F (List.replicate n xs).flatten (List.replicate n vs).flatten
  | 0 => repL_emp
  | n + 1 => by
    rw [List.replicate_succ, List.replicate_succ, List.flatten_cons, List.flatten_cons]
    exact repL_app h (repL_rep h n)
def rMul3 : R2 := fun x y H Q => (rI CMul (fun i j => .int (i * j)) x y H Q ∨ rI CMulW (fun i j => .int (i * j)) x y H Q) ∨ rRep x y H Q
theorem two_mul : Two0 S .mul rMul3 := by
  intro F H x y d e z Q ex hx hy h g
  cases e with
  | int j =>
    cases d with
    | int i =>
      have h : (if mulOk i j = true then some (D.int (i * j)) else none) = some z := h
      split at h
      · rename_i hm
        cases h
        rcases mulOk_or hm with hm | hm
        · exact .inl (.inl ⟨i, j, repD_int (S := S) (F := F) hx, repD_int (S := S) (F := F) hy, hm, g.now ex (rep_int (S := S) (F := F))⟩)
        · exact .inl (.inr ⟨i, j, repD_int (S := S) (F := F) hx, repD_int (S := S) (F := F) hy, hm, g.now ex (rep_int (S := S) (F := F))⟩)
      · cases h
    | lst xs =>
      have h : @ite _ (-(2 ^ 63) ≤ j ∧ j < 2 ^ 63 ∧ xs.length * j.toNat ≤ sizeLine) (Classical.propDecidable _) (some (D.lst (List.replicate j.toNat xs).flatten)) none = some z := h
      split at h
      · rename_i hm
        cases h
        obtain ⟨a, vs, rfl, h1, h2⟩ := hx
        refine .inr ⟨a, j, vs, rfl, repD_int (S := S) (F := F) hy, h1, hm.1, hm.2.1, by rw [← repL_len h2]; exact hm.2.2, fun p hp => ?_⟩
        have gr := Grow.one ex (.lst (List.replicate j.toNat vs).flatten) hp
        exact g _ _ _ gr (rep_lst upd_same (repL_ex gr.f _ (repL_rep h2 _)))
      · cases h
    | _ => cases h
  | _ => cases d <;> cases h
def CDivV (_ j : Int) : Prop := j ≠ 0 ∧ j.natAbs.log2 < 9000
theorem op_fdivV : OpR X (binaryOp .FloorDiv) (rI CDivV fun i j => .int (i.fdiv j)) := opI fun i j _ _ _ _ _ hc q => floordiv_int hc.1 q (.inl (PyProof.noPylong_of_log2 hc.2))
theorem two_fdiv : Two0 S .fdiv (fun x y H Q => rI CDivW (fun i j => .int (i / j)) x y H Q ∨ rI CDivV (fun i j => .int (i.fdiv j)) x y H Q) := by
  intro F H x y d e z Q ex hx hy h g
  obtain ⟨i, j, rfl, rfl⟩ := opD_int2 h (int2_none (by simp))
  have h : (if divOk j = true then some (D.int (i / j)) else if divNk j = true then some (D.int (i.fdiv j)) else none) = some z := h
  split at h
  · rename_i hm
    cases h
    unfold divOk at hm
    simp only [Bool.and_eq_true, decide_eq_true_eq] at hm
    exact .inl ⟨i, j, repD_int (S := S) (F := F) hx, repD_int (S := S) (F := F) hy, hm, g.now ex (rep_int (S := S) (F := F))⟩
  · split at h
    · rename_i hm
      cases h
      unfold divNk at hm
      simp only [Bool.and_eq_true, Bool.not_eq_true', decide_eq_true_eq, decide_eq_false_iff_not] at hm
      exact .inr ⟨i, j, repD_int (S := S) (F := F) hx, repD_int (S := S) (F := F) hy, hm, g.now ex (rep_int (S := S) (F := F))⟩
    · cases h
theorem two_mod : Two0 S .mod (fun x y H Q => rI (fun _ j => 0 < j) (fun i j => .int (i % j)) x y H Q ∨ rI (fun _ j => j ≠ 0) (fun i j => .int (i.fmod j)) x y H Q) := by
  intro F H x y d e z Q ex hx hy h g
  obtain ⟨i, j, rfl, rfl⟩ := opD_int2 h (int2_none (by simp))
  have h : (if 0 < j then some (D.int (i % j)) else if j ≠ 0 then some (D.int (i.fmod j)) else none) = some z := h
  split at h
  · rename_i hm
    cases h
    exact .inl ⟨i, j, repD_int (S := S) (F := F) hx, repD_int (S := S) (F := F) hy, hm, g.now ex (rep_int (S := S) (F := F))⟩
  · split at h
    · rename_i hm
      cases h
      exact .inr ⟨i, j, repD_int (S := S) (F := F) hx, repD_int (S := S) (F := F) hy, hm, g.now ex (rep_int (S := S) (F := F))⟩
    · cases h
theorem two_pow : Two0 S .pow (rI CPow fun i j => .int (i ^ j.toNat)) := by
  intro F H x y d e z Q ex hx hy h g
  obtain ⟨i, j, rfl, rfl⟩ := opD_int2 h (int2_none (by simp))
  have h : (if powOk i j = true then some (D.int (i ^ j.toNat)) else none) = some z := h
  split at h
  · rename_i hm
    cases h
    unfold powOk at hm
    simp only [Bool.and_eq_true, decide_eq_true_eq] at hm
    exact ⟨i, j, repD_int (S := S) (F := F) hx, repD_int (S := S) (F := F) hy, ⟨hm.1.1, hm.1.2, hm.2⟩, g.now ex (rep_int (S := S) (F := F))⟩
  · cases h
theorem one_neg : One0 S .neg (rU fun i => .int (-i)) := by
  intro F H x d z Q ex hx h g
  cases d with
  | int i =>
    have h : some (D.int (-i)) = some z := h
    cases h
    exact ⟨i, repD_int (S := S) (F := F) hx, g.now ex (rep_int (S := S) (F := F))⟩
  | _ => cases h
theorem two_le : Two0 S .le (rI0 fun i j => .bl (decide (i ≤ j))) := by
  intro F H x y d e z Q ex hx hy h g
  obtain ⟨i, j, rfl, rfl⟩ := opD_int2 h (int2_none (by simp))
  have h : some (D.bl (decide (i ≤ j))) = some z := h
  cases h
  exact ⟨i, j, repD_int (S := S) (F := F) hx, repD_int (S := S) (F := F) hy, g.now ex (rep_bl (S := S) (F := F))⟩
theorem two_ge : Two0 S .ge (rI0 fun i j => .bl (decide (j ≤ i))) := by
  intro F H x y d e z Q ex hx hy h g
  obtain ⟨i, j, rfl, rfl⟩ := opD_int2 h (int2_none (by simp))
  have h : some (D.bl (decide (j ≤ i))) = some z := h
  cases h
  exact ⟨i, j, repD_int (S := S) (F := F) hx, repD_int (S := S) (F := F) hy, g.now ex (rep_bl (S := S) (F := F))⟩

/-! ### == -/
theorem toPs_cons {x : D} {xs : List D} {ps : List PyData} (h : toPs (x :: xs) = some ps) : ∃ p qs, ps = p :: qs ∧ x.toP = some p ∧ toPs xs = some qs := by
  unfold toPs at h
  cases e1 : x.toP with
  | none => rw [e1] at h; cases h
  | some p =>
    rw [e1] at h
    cases e2 : toPs xs with
    | none => simp only [e2] at h; cases h
    | some qs =>
      simp only [e2] at h
      exact ⟨p, qs, (Option.some.inj h).symm, rfl, rfl⟩
mutual
theorem dp_of {F : Hp} : ∀ (x : D) {v : V} {p : PyData}, RepD S F x v → x.toP = some p → Dp S.K F v p
  | .non, v, p, h, e => by
    rw [repD_non (S := S) (F := F) h]
    have e : some PyData.none = some p := by simpa only [D.toP] using e
    cases e
    exact .non
  | .bl b, v, p, h, e => by
    rw [repD_bl (S := S) (F := F) h]
    have e : some (PyData.bool b) = some p := by simpa only [D.toP] using e
    cases e
    exact .bl b
  | .int b, v, p, h, e => by
    rw [repD_int (S := S) (F := F) h]
    have e : some (PyData.int b) = some p := by simpa only [D.toP] using e
    cases e
    exact .int b
  | .str b, v, p, h, e => by
    rw [repD_str (S := S) (F := F) h]
    have e : some (PyData.str b) = some p := by simpa only [D.toP] using e
    cases e
    exact .str b
  | .tup xs, v, p, h, e => by
    obtain ⟨a, vs, rfl, h1, h2⟩ := repD_tup h
    have e : (toPs xs).map PyData.tuple = some p := by simpa only [D.toP] using e
    cases e2 : toPs xs with
    | none => rw [e2] at e; cases e
    | some ps =>
      rw [e2] at e
      cases e
      exact .tup h1 (dps_of xs h2 e2)
  | .lst xs, v, p, h, e => by
    obtain ⟨a, vs, rfl, h1, h2⟩ := repD_lst h
    have e : (toPs xs).map PyData.list = some p := by simpa only [D.toP] using e
    cases e2 : toPs xs with
    | none => rw [e2] at e; cases e
    | some ps =>
      rw [e2] at e
      cases e
      exact .lst (Evl.sq_of h1) (dps_of xs h2 e2)
  | .frl xs, v, p, h, e => by
    obtain ⟨a, vs, rfl, h1, h2⟩ := repD_frl h
    have e : (toPs xs).map PyData.list = some p := by simpa only [D.toP] using e
    cases e2 : toPs xs with
    | none => rw [e2] at e; cases e
    | some ps =>
      rw [e2] at e
      cases e
      exact .lst h1 (dps_of xs h2 e2)
  | .emp, v, p, h, e => by simp only [D.toP] at e; cases e
  | .ins c xs, v, p, h, e => by simp only [D.toP] at e; cases e
theorem dps_of {F : Hp} : ∀ (xs : List D) {vs : List V} {ps : List PyData}, RepL S F xs vs → toPs xs = some ps → DpAll S.K F vs ps
  | [], vs, ps, h, e => by
    rw [repL_nil h]
    have e : some [] = some ps := by simpa only [toPs] using e
    cases e
    exact .nil
  | x :: xs, vs, ps, h, e => by
    obtain ⟨v, ws, rfl, h1, h2⟩ := repL_cons h
    obtain ⟨p, qs, rfl, e1, e2⟩ := toPs_cons e
    exact .cons (dp_of x h1 e1) (dps_of xs h2 e2)
end
mutual
theorem Dp.up {K : PySem.W.Frag} {H H' : Hp} (e : Ex H H') : ∀ (p : PyData) {v : V}, Dp K H v p → Dp K H' v p
  | _, _, .non => .non
  | _, _, .bl b => .bl b
  | _, _, .int b => .int b
  | _, _, .str b => .str b
  | _, _, .lst h1 h2 => .lst (Evl.ex_l e h1) (DpAll.up e _ h2)
  | _, _, .tup h1 h2 => .tup (Evl.ex_t e h1) (DpAll.up e _ h2)
theorem DpAll.up {K : PySem.W.Frag} {H H' : Hp} (e : Ex H H') : ∀ (ps : List PyData) {vs : List V}, DpAll K H vs ps → DpAll K H' vs ps
  | _, _, .nil => .nil
  | _, _, .cons h1 h2 => .cons (Dp.up e _ h1) (DpAll.up e _ h2)
end
theorem dpA_of {F H : Hp} (ex : Ex F H) {x : D} {v : V} {p : PyData} (h : RepA S F H x v) (e : x.toP = some p) : Dp S.K H v p := by
  cases x with
  | lst xs =>
    obtain ⟨a, vs, rfl, h1, h2⟩ := h
    have e : (toPs xs).map PyData.list = some p := by simpa only [D.toP] using e
    cases e2 : toPs xs with
    | none => rw [e2] at e; cases e
    | some ps =>
      rw [e2] at e
      cases e
      exact .lst (Evl.sq_of h1) (DpAll.up ex _ (dps_of xs h2 e2))
  | _ => exact Dp.up ex _ (dp_of (S := S) (F := F) _ h e)
/-! ### points in order -/
def isPt (K : PySem.W.Frag) (H : Hp) (x : V) (p : Int × Int) : Prop := Dp K H x (.tuple [.int p.1, .int p.2])
theorem toP_pt (a b : Int) : D.toP (.tup [.int a, .int b]) = some (.tuple [.int a, .int b]) := by
  simp only [D.toP, toPs, Option.map]
def rLtP (K : PySem.W.Frag) (sw : Bool) : R2 := fun x y H Q => ∃ p q, isPt K H x p ∧ isPt K H y q ∧ Q (.bl (if sw then ltP q p else ltP p q)) H
theorem lt_cases {d e z : D} (h : opD .lt [d, e] = some z) : (∃ i j, d = .int i ∧ e = .int j ∧ z = .bl (decide (i < j))) ∨ ∃ a b c f, d = .tup [.int a, .int b] ∧ e = .tup [.int c, .int f] ∧ z = .bl (ltP (a, b) (c, f)) := by
  cases d with
  | int i =>
    cases e with
    | int j => exact .inl ⟨i, j, rfl, rfl, (Option.some.inj h).symm⟩
    | _ => cases h
  | tup xs =>
    unfold opD at h
    split at h <;> first | (cases h; done) | skip
    all_goals first | contradiction | (rename_i e1; cases e1 <;> first | contradiction | (cases h; exact .inr ⟨_, _, _, _, rfl, rfl, rfl⟩))
  | _ => cases h
theorem gt_cases {d e z : D} (h : opD .gt [d, e] = some z) : (∃ i j, d = .int i ∧ e = .int j ∧ z = .bl (decide (j < i))) ∨ ∃ a b c f, d = .tup [.int a, .int b] ∧ e = .tup [.int c, .int f] ∧ z = .bl (ltP (c, f) (a, b)) := by
  cases d with
  | int i =>
    cases e with
    | int j => exact .inl ⟨i, j, rfl, rfl, (Option.some.inj h).symm⟩
    | _ => cases h
  | tup xs =>
    unfold opD at h
    split at h <;> first | (cases h; done) | skip
    all_goals first | contradiction | (rename_i e1; cases e1 <;> first | contradiction | (cases h; exact .inr ⟨_, _, _, _, rfl, rfl, rfl⟩))
  | _ => cases h
theorem two_lt : Two0 S .lt (fun x y H Q => rI0 (fun i j => .bl (decide (i < j))) x y H Q ∨ rLtP S.K false x y H Q) := by
  intro F H x y d e z Q ex hx hy h g
  rcases lt_cases h with ⟨i, j, rfl, rfl, rfl⟩ | ⟨a, b, c, f, rfl, rfl, rfl⟩
  · exact .inl ⟨i, j, repD_int (S := S) (F := F) hx, repD_int (S := S) (F := F) hy, g.now ex (rep_bl (S := S) (F := F))⟩
  · exact .inr ⟨(a, b), (c, f), dpA_of ex hx (toP_pt a b), dpA_of ex hy (toP_pt c f), g.now ex (rep_bl (S := S) (F := F))⟩
theorem two_gt : Two0 S .gt (fun x y H Q => rI0 (fun i j => .bl (decide (j < i))) x y H Q ∨ rLtP S.K true x y H Q) := by
  intro F H x y d e z Q ex hx hy h g
  rcases gt_cases h with ⟨i, j, rfl, rfl, rfl⟩ | ⟨a, b, c, f, rfl, rfl, rfl⟩
  · exact .inl ⟨i, j, repD_int (S := S) (F := F) hx, repD_int (S := S) (F := F) hy, g.now ex (rep_bl (S := S) (F := F))⟩
  · exact .inr ⟨(a, b), (c, f), dpA_of ex hx (toP_pt a b), dpA_of ex hy (toP_pt c f), g.now ex (rep_bl (S := S) (F := F))⟩
theorem eqD_some {x y : D} {b : Bool} (h : eqD x y = some b) : ∃ d e, x.toP = some d ∧ y.toP = some e ∧ SeqAt.shaped d = true ∧ SeqAt.shaped e = true ∧ b = PyData.eqv d e := by
  unfold eqD at h
  cases e1 : x.toP with
  | none => rw [e1] at h; cases h
  | some d =>
    cases e2 : y.toP with
    | none => rw [e1, e2] at h; cases h
    | some e =>
      simp only [e1, e2] at h
      split at h
      · rename_i q
        exact ⟨d, e, rfl, rfl, q.1, q.2, (Option.some.inj h).symm⟩
      · cases h
theorem two_eq : Two0 S .eq (rEqD S.K) := by
  intro F H x y d e z Q ex hx hy h g
  have h : (eqD d e).map D.bl = some z := h
  cases q : eqD d e with
  | none => rw [q] at h; cases h
  | some b =>
    rw [q] at h
    cases h
    obtain ⟨p, p', e1, e2, s1, s2, rfl⟩ := eqD_some q
    exact ⟨p, p', dpA_of ex hx e1, dpA_of ex hy e2, s1, s2, g.now ex (rep_bl (S := S) (F := F))⟩
theorem two_ne : Two0 S .ne (rNeD S.K) := by
  intro F H x y d e z Q ex hx hy h g
  have h : (eqD d e).map (fun b => D.bl (!b)) = some z := h
  cases q : eqD d e with
  | none => rw [q] at h; cases h
  | some b =>
    rw [q] at h
    cases h
    obtain ⟨p, p', e1, e2, s1, s2, rfl⟩ := eqD_some q
    exact ⟨p, p', dpA_of ex hx e1, dpA_of ex hy e2, s1, s2, g.now ex (rep_bl (S := S) (F := F))⟩

/-! ### is -/
def rIsI : R2 := fun x y H Q => ∃ (i : Int) (b : Bool), x = .int i ∧ y = .bl b ∧ Q (.bl false) H
def rNotI : R2 := fun x y H Q => ∃ (i : Int) (b : Bool), x = .int i ∧ y = .bl b ∧ Q (.bl true) H
theorem op_isI {X : Cx} : OpR X (compareOp .Is) rIsI := by
  intro pins s σ H x y v u Q I rx ry h
  obtain ⟨a, b, rfl, rfl, q⟩ := h
  obtain ⟨t, rfl⟩ := rx
  cases (show u = Value.bool b from ry)
  exact wpAny_is_other rfl (fun z => nomatch z) ⟨.bl false, H, I, rfl, q⟩
theorem op_notI {X : Cx} : OpR X (compareOp .IsNot) rNotI := by
  intro pins s σ H x y v u Q I rx ry h
  obtain ⟨a, b, rfl, rfl, q⟩ := h
  obtain ⟨t, rfl⟩ := rx
  cases (show u = Value.bool b from ry)
  exact wpAny_isNot_other rfl (fun z => nomatch z) ⟨.bl true, H, I, rfl, q⟩
def rIs1 : R2 := fun x y H Q => (y = .non ∧ Q (.bl (decide (x = .non))) H) ∨ rIsB x y H Q ∨ rIsI x y H Q
def rIs0 : R2 := fun x y H Q => (y = .non ∧ Q (.bl (!decide (x = .non))) H) ∨ rNotB x y H Q ∨ rNotI x y H Q
theorem isD_cases {d e : D} {b : Bool} (h : isD d e = some b) : (e = .non ∧ ((d = .non ∧ b = true) ∨ ((∀ {S : Sta} {F H : Hp} {v : V}, RepA S F H d v → v ≠ .non) ∧ b = false))) ∨ (∃ a a', d = .bl a ∧ e = .bl a' ∧ b = (a == a')) ∨ ∃ i a', d = .int i ∧ e = .bl a' ∧ b = false := by
  cases d with
  | non =>
    cases e with
    | non => exact .inl ⟨rfl, .inl ⟨rfl, by cases h; rfl⟩⟩
    | _ => cases h
  | bl a =>
    cases e with
    | non => exact .inl ⟨rfl, .inr ⟨(fun {S F H v} r => by rw [repD_bl (S := S) (F := F) r]; exact fun z => nomatch z), by cases h; rfl⟩⟩
    | bl a' => exact .inr (.inl ⟨a, a', rfl, rfl, by cases h; rfl⟩)
    | _ => cases h
  | int i =>
    cases e with
    | non => exact .inl ⟨rfl, .inr ⟨(fun {S F H v} r => by rw [repD_int (S := S) (F := F) r]; exact fun z => nomatch z), by cases h; rfl⟩⟩
    | bl a' => exact .inr (.inr ⟨i, a', rfl, rfl, by cases h; rfl⟩)
    | _ => cases h
  | str i =>
    cases e with
    | non => exact .inl ⟨rfl, .inr ⟨(fun {S F H v} r => by rw [repD_str (S := S) (F := F) r]; exact fun z => nomatch z), by cases h; rfl⟩⟩
    | _ => cases h
  | tup i =>
    cases e with
    | non => exact .inl ⟨rfl, .inr ⟨(fun {S F H v} r => by obtain ⟨a, vs, rfl, -⟩ := repD_tup (S := S) (F := F) r; exact fun z => nomatch z), by cases h; rfl⟩⟩
    | _ => cases h
  | lst i =>
    cases e with
    | non => exact .inl ⟨rfl, .inr ⟨(fun {S F H v} r => by obtain ⟨a, vs, rfl, -⟩ := r; exact fun z => nomatch z), by cases h; rfl⟩⟩
    | _ => cases h
  | _ => cases h
theorem two_is : Two0 S .is rIs1 := by
  intro F H x y d e z Q ex hx hy h g
  have h : (isD d e).map D.bl = some z := h
  cases q : isD d e with
  | none => rw [q] at h; cases h
  | some b =>
    rw [q] at h
    cases h
    have gq := g.now ex (rep_bl (S := S) (F := F) (i := b))
    rcases isD_cases q with ⟨rfl, ⟨rfl, rfl⟩ | ⟨nn, rfl⟩⟩ | ⟨a, a', rfl, rfl, rfl⟩ | ⟨i, a', rfl, rfl, rfl⟩
    · refine .inl ⟨repD_non (S := S) (F := F) hy, ?_⟩
      rw [repD_non (S := S) (F := F) hx]
      exact gq
    · refine .inl ⟨repD_non (S := S) (F := F) hy, ?_⟩
      rw [decide_eq_false (nn hx)]
      exact gq
    · refine .inr (.inl ⟨a, a', repD_bl (S := S) (F := F) hx, repD_bl (S := S) (F := F) hy, ?_⟩)
      have e : decide (a = a') = (a == a') := by cases a <;> cases a' <;> rfl
      rw [e]
      exact gq
    · exact .inr (.inr ⟨i, a', repD_int (S := S) (F := F) hx, repD_bl (S := S) (F := F) hy, gq⟩)
theorem two_isnot : Two0 S .isnot rIs0 := by
  intro F H x y d e z Q ex hx hy h g
  have h : (isD d e).map (fun b => D.bl (!b)) = some z := h
  cases q : isD d e with
  | none => rw [q] at h; cases h
  | some b =>
    rw [q] at h
    cases h
    have gq := g.now ex (rep_bl (S := S) (F := F) (i := !b))
    rcases isD_cases q with ⟨rfl, ⟨rfl, rfl⟩ | ⟨nn, rfl⟩⟩ | ⟨a, a', rfl, rfl, rfl⟩ | ⟨i, a', rfl, rfl, rfl⟩
    · refine .inl ⟨repD_non (S := S) (F := F) hy, ?_⟩
      rw [repD_non (S := S) (F := F) hx]
      exact gq
    · refine .inl ⟨repD_non (S := S) (F := F) hy, ?_⟩
      rw [decide_eq_false (nn hx)]
      exact gq
    · refine .inr (.inl ⟨a, a', repD_bl (S := S) (F := F) hx, repD_bl (S := S) (F := F) hy, ?_⟩)
      have e : (!decide (a = a')) = !(a == a') := by cases a <;> cases a' <;> rfl
      rw [e]
      exact gq
    · exact .inr (.inr ⟨i, a', repD_int (S := S) (F := F) hx, repD_bl (S := S) (F := F) hy, gq⟩)

/-! ### places, lengths -/
theorem items_cases {x : D} {xs : List D} (h : items x = some xs) : x = .lst xs ∨ x = .tup xs ∨ x = .frl xs := by
  cases x with
  | lst ys => cases h; exact .inl rfl
  | tup ys => cases h; exact .inr (.inl rfl)
  | frl ys => cases h; exact .inr (.inr rfl)
  | _ => cases h
theorem repL_at {F : Hp} {xs : List D} {vs : List V} {i : Int} {z : D} (h : RepL S F xs vs) (e : atI xs i = some z) : ∃ v, atI vs i = some v ∧ RepD S F z v := by
  unfold atI at e ⊢
  rw [← repL_len h]
  cases q : ixN xs.length i with
  | none => rw [q] at e; cases e
  | some j =>
    rw [q] at e
    exact repL_get h e
theorem two_ix : Two0 S .ix (fun x y H Q => rIxL S.K x y H Q ∨ rIxT S.K x y H Q) := by
  intro F H x y d e z Q ex hx hy h g
  cases e with
  | int i =>
    have h : (items d).bind (fun xs => atI xs i) = some z := h
    cases q : items d with
    | none => rw [q] at h; cases h
    | some xs =>
      rw [q] at h
      have h : atI xs i = some z := h
      rcases items_cases q with rfl | rfl | rfl
      rotate_right
      · obtain ⟨a, vs, rfl, h1, h2⟩ := repD_frl hx
        obtain ⟨v, e1, r1⟩ := repL_at h2 h
        exact .inl ⟨a, vs, i, v, rfl, repD_int (S := S) (F := F) hy, Evl.ex_l ex h1, e1, g.now ex r1⟩
      · obtain ⟨a, vs, rfl, h1, h2⟩ := hx
        obtain ⟨v, e1, r1⟩ := repL_at h2 h
        exact .inl ⟨a, vs, i, v, rfl, repD_int (S := S) (F := F) hy, Evl.sq_of h1, e1, g.now ex r1⟩
      · obtain ⟨a, vs, rfl, h1, h2⟩ := repD_tup hx
        obtain ⟨v, e1, r1⟩ := repL_at h2 h
        exact .inr ⟨a, vs, i, v, rfl, repD_int (S := S) (F := F) hy, Evl.ex_t ex h1, e1, g.now ex r1⟩
  | _ => cases h
theorem opD_one {o : Op} {xs : List D} {z : D} (ho : ∀ ys, (∀ x, ys ≠ [x]) → opD o ys = none) (h : opD o xs = some z) : ∃ x, xs = [x] := by
  by_cases q : ∃ x, xs = [x]
  · exact q
  · rw [ho xs fun x e => q ⟨x, e⟩] at h
    cases h
theorem one_none {o : Op} (h : o = .len ∨ o = .abs ∨ o = .int ∨ o = .sum ∨ ∃ t, o = .isi t) : ∀ ys : List D, (∀ x, ys ≠ [x]) → opD o ys = none := by
  intro ys q
  match ys with
  | [] => rcases h with rfl | rfl | rfl | rfl | ⟨t, rfl⟩ <;> rfl
  | [x] => exact absurd rfl (q x)
  | x :: y :: r => rcases h with rfl | rfl | rfl | rfl | ⟨t, rfl⟩ <;> first | rfl | (cases x <;> rfl)
theorem many_len : Many0 S .len (fun xs H Q => ∃ p ys, xs = [.ref p] ∧ (SqL S.K H p ys ∨ SqT S.K H p ys) ∧ Q (.int ys.length) H) := by
  intro F H ws xs z Q ex hx h g
  obtain ⟨x, rfl⟩ := opD_one (one_none (by simp)) h
  obtain ⟨w, rfl, hw⟩ := repAs_one hx
  have h : (items x).map (fun xs => D.int xs.length) = some z := h
  cases q : items x with
  | none => rw [q] at h; cases h
  | some ys =>
    rw [q] at h
    cases h
    rcases items_cases q with rfl | rfl | rfl
    rotate_right
    · obtain ⟨a, vs, rfl, h1, h2⟩ := repD_frl hw
      refine ⟨a, vs, rfl, .inl (Evl.ex_l ex h1), ?_⟩
      rw [← repL_len h2]
      exact g.now ex (rep_int (S := S) (F := F))
    · obtain ⟨a, vs, rfl, h1, h2⟩ := hw
      refine ⟨a, vs, rfl, .inl (Evl.sq_of h1), ?_⟩
      rw [← repL_len h2]
      exact g.now ex (rep_int (S := S) (F := F))
    · obtain ⟨a, vs, rfl, h1, h2⟩ := repD_tup hw
      refine ⟨a, vs, rfl, .inr (Evl.ex_t ex h1), ?_⟩
      rw [← repL_len h2]
      exact g.now ex (rep_int (S := S) (F := F))
theorem repL_ints {F : Hp} : ∀ {xs : List D} {vs : List V} {ns : List Int}, RepL S F xs vs → intsOf xs = some ns → vs = ns.map V.int
  | [], vs, ns, h, e => by
    cases e
    rw [repL_nil h]
    rfl
  | x :: xs, vs, ns, h, e => by
    obtain ⟨v, ws, rfl, h1, h2⟩ := repL_cons h
    cases x with
    | int i =>
      have e : (intsOf xs).map (i :: ·) = some ns := e
      cases q : intsOf xs with
      | none => rw [q] at e; cases e
      | some ms =>
        rw [q] at e
        cases e
        rw [repL_ints h2 q, repD_int (S := S) (F := F) h1]
        rfl
    | _ => cases e
theorem repL_bls {F : Hp} : ∀ {xs : List D} {vs : List V} {ns : List Bool}, RepL S F xs vs → blsOf xs = some ns → vs = ns.map V.bl
  | [], vs, ns, h, e => by
    cases e
    rw [repL_nil h]
    rfl
  | x :: xs, vs, ns, h, e => by
    obtain ⟨v, ws, rfl, h1, h2⟩ := repL_cons h
    cases x with
    | bl i =>
      have e : (blsOf xs).map (i :: ·) = some ns := e
      cases q : blsOf xs with
      | none => rw [q] at e; cases e
      | some ms =>
        rw [q] at e
        cases e
        rw [repL_bls h2 q, repD_bl (S := S) (F := F) h1]
        rfl
    | _ => cases e
def rSumB (K : PySem.W.Frag) : List V → Hp → VK → Prop := fun xs H Q => ∃ (a : Addr) (bs : List Bool), xs = [V.ref a] ∧ SqL K H a (bs.map V.bl) ∧ Q (.int (bs.map b01).sum) H
theorem many_sum : Many0 S .sum (fun xs H Q => rSum S.K xs H Q ∨ rSumB S.K xs H Q) := by
  intro F H ws xs z Q ex hx h g
  obtain ⟨x, rfl⟩ := opD_one (one_none (by simp)) h
  obtain ⟨w, rfl, hw⟩ := repAs_one hx
  cases x with
  | lst ys =>
    have h : (match intsOf ys with
      | some ns => some (D.int ns.sum)
      | none => (blsOf ys).map fun bs => D.int (bs.map b01).sum) = some z := h
    obtain ⟨a, vs, rfl, h1, h2⟩ := hw
    cases q : intsOf ys with
    | some ns =>
      rw [q] at h
      cases h
      refine .inl ⟨a, ns, rfl, ?_, g.now ex (rep_int (S := S) (F := F))⟩
      rw [← repL_ints h2 q]
      exact Evl.sq_of h1
    | none =>
      simp only [q] at h
      cases q2 : blsOf ys with
      | none => rw [q2] at h; cases h
      | some bs =>
        rw [q2] at h
        cases h
        refine .inr ⟨a, bs, rfl, ?_, g.now ex (rep_int (S := S) (F := F))⟩
        rw [← repL_bls h2 q2]
        exact Evl.sq_of h1
  | _ => cases h
theorem many_abs : Many0 S .abs (fun xs H Q => ∃ i, xs = [.int i] ∧ Q (.int (if i < 0 then -i else i)) H) := by
  intro F H ws xs z Q ex hx h g
  obtain ⟨x, rfl⟩ := opD_one (one_none (by simp)) h
  obtain ⟨w, rfl, hw⟩ := repAs_one hx
  cases x with
  | int i =>
    have h : some (D.int (if i < 0 then -i else i)) = some z := h
    cases h
    exact ⟨i, by rw [repD_int (S := S) (F := F) hw], g.now ex (rep_int (S := S) (F := F))⟩
  | _ => cases h
theorem many_int : Many0 S .int (fun xs H Q => (∃ i, xs = [.int i] ∧ Q (.int i) H) ∨ ∃ k, xs = [.bl k] ∧ Q (.int (if k then 1 else 0)) H) := by
  intro F H ws xs z Q ex hx h g
  obtain ⟨x, rfl⟩ := opD_one (one_none (by simp)) h
  obtain ⟨w, rfl, hw⟩ := repAs_one hx
  cases x with
  | int i =>
    have h : some (D.int i) = some z := h
    cases h
    exact .inl ⟨i, by rw [repD_int (S := S) (F := F) hw], g.now ex (rep_int (S := S) (F := F))⟩
  | bl b =>
    have h : some (D.int (if b then 1 else 0)) = some z := h
    cases h
    exact .inr ⟨b, by rw [repD_bl (S := S) (F := F) hw], g.now ex (rep_int (S := S) (F := F))⟩
  | _ => cases h
theorem opD_pair {o : Op} {xs : List D} {z : D} (h : opD o xs = some z) (ho : o = .max2 ∨ o = .min2) : ∃ i j, xs = [.int i, .int j] := by
  match xs with
  | [] => rcases ho with rfl | rfl <;> cases h
  | [x] => rcases ho with rfl | rfl <;> cases x <;> cases h
  | [x, y] =>
    cases x with
    | int i =>
      cases y with
      | int j => exact ⟨i, j, rfl⟩
      | _ => rcases ho with rfl | rfl <;> cases h
    | _ => rcases ho with rfl | rfl <;> cases h
  | x :: y :: u :: r => rcases ho with rfl | rfl <;> cases x <;> first | cases h | (cases y <;> cases h)
theorem many_max2 : Many0 S .max2 (fun xs H Q => ∃ i j, xs = [.int i, .int j] ∧ Q (.int (if j > i then j else i)) H) := by
  intro F H ws xs z Q ex hx h g
  obtain ⟨i, j, rfl⟩ := opD_pair h (.inl rfl)
  obtain ⟨v, w, rfl, hv, hw⟩ := repAs_two hx
  have h : some (D.int (if j > i then j else i)) = some z := h
  cases h
  exact ⟨i, j, by rw [repD_int (S := S) (F := F) hw, repD_int (S := S) (F := F) hv], g.now ex (rep_int (S := S) (F := F))⟩
theorem many_min2 : Many0 S .min2 (fun xs H Q => ∃ i j, xs = [.int i, .int j] ∧ Q (.int (if j < i then j else i)) H) := by
  intro F H ws xs z Q ex hx h g
  obtain ⟨i, j, rfl⟩ := opD_pair h (.inr rfl)
  obtain ⟨v, w, rfl, hv, hw⟩ := repAs_two hx
  have h : some (D.int (if j < i then j else i)) = some z := h
  cases h
  exact ⟨i, j, by rw [repD_int (S := S) (F := F) hw, repD_int (S := S) (F := F) hv], g.now ex (rep_int (S := S) (F := F))⟩

/-! ### isinstance -/
def Ty.name : Ty → String
  | .int => "int" | .bool => "bool" | .str => "str" | .tuple => "tuple" | .list => "list" | .dict => "dict" | .own _ _ => "object"
def Ty.v (S : Sta) : Ty → V
  | .own d _ => .ref (S.ca d) | t => .ty t.name
def Ty.u (S : Sta) : Ty → Value
  | .own d _ => .ref (S.ca d) | t => .type t.name
def kinds : List String := ["NoneType", "bool", "int", "str", "tuple", "list", "dict"]
/-- an own class that isinstance asks for; cs: the classes whose instances are its -/
structure OwnTy (S : Sta) (d : Nat) (cs : List Nat) : Prop where
  blt : ∀ k, k ∈ kinds → PySem.W.kitOne S.K (.type k) (.ref (S.ca d)) = some false
  ins : ∀ c, S.ih c = true → PySem.W.kitOne S.K (.ref (S.ca c)) (.ref (S.ca d)) = some (cs.contains c)
/-- a class with instances -/
structure InsF (K : PySem.W.Frag) (C : Addr) : Prop where
  cl : Cls K C
  ha : PySem.W.findIn K (.ref C) "__class__" = some (some (.builtin "object.__class__"))
  hn : PySem.W.specialIn K (.builtin "object.__class__") "__get__" = some (some (.builtin "getset_descriptor.__get__"))
  htk : PySem.W.takesIn K (.builtin "object.__class__") = some true
  hm : PySem.W.mroIn K C (.type "object") = some true
  nt : ∀ t, t ∈ (["int", "bool", "str", "tuple", "list", "dict"] : List String) → PySem.W.kitOne K (.ref C) (.type t) = some false
def TyFine (S : Sta) : Ty → Prop
  | .own d cs => OwnTy S d cs
  | _ => True
def kindD : D → Option String
  | .non => some "NoneType" | .bl _ => some "bool" | .int _ => some "int" | .str _ => some "str" | .tup _ => some "tuple" | .lst _ => some "list" | .frl _ => some "list" | .emp => some "dict" | .ins .. => none | .cls _ => none
theorem kind_in {x : D} {k : String} (h : kindD x = some k) : k ∈ kinds := by
  cases x <;> cases h <;> decide
theorem tyX_of {F H : Hp} (ex : Ex F H) {x : D} {v : V} {k : String} (h : RepA S F H x v) (e : kindD x = some k) : TyX S.K H v (.type k) := by
  cases x with
  | non => cases e; rw [repD_non (S := S) (F := F) h]; exact .base .non
  | bl b => cases e; rw [repD_bl (S := S) (F := F) h]; exact .base (.bl b)
  | int b => cases e; rw [repD_int (S := S) (F := F) h]; exact .base (.int b)
  | str b => cases e; rw [repD_str (S := S) (F := F) h]; exact .base (.str b)
  | tup xs =>
    cases e
    obtain ⟨a, vs, rfl, h1, _⟩ := repD_tup h
    rcases Evl.ex_t ex h1 with (q | ⟨o, q⟩) | ⟨o, its, n, q, c, _⟩
    · exact .base (.tup q)
    · exact .fTuple q
    · exact .kTuple q c
  | lst xs =>
    cases e
    obtain ⟨a, vs, rfl, h1, _⟩ := h
    exact .base (.lst h1)
  | frl xs =>
    cases e
    obtain ⟨a, vs, rfl, h1, _⟩ := repD_frl h
    rcases Evl.ex_l ex h1 with (q | ⟨o, q⟩) | ⟨o, its, n, q, c, _⟩
    · exact .base (.lst q)
    · exact .base (.frz q)
    · exact .kList q c
  | emp =>
    cases e
    obtain ⟨a, rfl, h1⟩ := repD_emp (S := S) (F := F) h
    exact .base (.dK (ex _ _ h1))
  | ins c xs => cases e
  | cls c => cases e
/-- the type of a value, and whether it is a type's -/
theorem kit_all (hI : ∀ c, S.ih c = true → InsF S.K (S.ca c)) {F H : Hp} (ex : Ex F H) {x : D} {v : V} (hx : RepA S F H x v) : ∀ {ts : List Ty} {b : Bool}, ts ≠ [] → (∀ t ∈ ts, TyFine S t) → tyAny ts x = some b →
    ∃ tv, TyX S.K H v tv ∧ (∀ t ∈ ts, ∀ b, tyD t x = some b → PySem.W.kitOne S.K tv (t.u S) = some b) ∧ ∀ b, tyAny ts x = some b → PySem.W.kitAny S.K tv (ts.map fun t => t.u S) = some b := by
  have one : ∀ {ts : List Ty} {tv : Value}, (∀ t ∈ ts, TyFine S t) → (∀ t, TyFine S t → ∀ b, tyD t x = some b → PySem.W.kitOne S.K tv (t.u S) = some b) →
      ∀ b, tyAny ts x = some b → PySem.W.kitAny S.K tv (ts.map fun t => t.u S) = some b := by
    intro ts tv hf h1
    induction ts with
    | nil =>
      intro b h
      unfold tyAny at h
      cases h
      rfl
    | cons t ts ih =>
      intro b h
      unfold tyAny at h
      have hf1 := hf t List.mem_cons_self
      split at h
      · rename_i e
        cases h
        exact kitAny_cons (h1 t hf1 _ e) (fun z => by cases z) (fun _ => rfl)
      · rename_i e
        exact kitAny_cons (h1 t hf1 _ e) (fun _ => ih (fun u hu => hf u (List.mem_cons_of_mem _ hu)) b h) (fun z => by cases z)
      · cases h
  intro ts b hne hf h
  cases hk : kindD x with
  | some k =>
    have h1 : ∀ t, TyFine S t → ∀ b, tyD t x = some b → PySem.W.kitOne S.K (.type k) (t.u S) = some b := by
      intro t ht b e
      cases t with
      | own d cs =>
        have ht : OwnTy S d cs := ht
        have e : b = false := by
          cases x <;> cases hk <;> cases e <;> rfl
        subst e
        exact ht.blt k (kind_in hk)
      | int => cases x <;> cases hk <;> cases e <;> exact kit_ty (by decide +kernel)
      | bool => cases x <;> cases hk <;> cases e <;> exact kit_ty (by decide +kernel)
      | str => cases x <;> cases hk <;> cases e <;> exact kit_ty (by decide +kernel)
      | tuple => cases x <;> cases hk <;> cases e <;> exact kit_ty (by decide +kernel)
      | list => cases x <;> cases hk <;> cases e <;> exact kit_ty (by decide +kernel)
      | dict => cases x <;> cases hk <;> cases e <;> exact kit_ty (by decide +kernel)
    exact ⟨_, tyX_of ex hx hk, fun t ht b e => h1 t (hf t ht) b e, fun b hb => one hf h1 b hb⟩
  | none =>
    cases x with
    | ins c xs =>
      obtain ⟨hc, a, dx, vs, rfl, q1, q2, q3⟩ := repD_ins (S := S) (F := F) hx
      have I := hI c hc
      have h1 : ∀ t, TyFine S t → ∀ b, tyD t (.ins c xs) = some b → PySem.W.kitOne S.K (.ref (S.ca c)) (t.u S) = some b := by
        intro t ht b e
        cases t with
        | own d cs =>
          have ht : OwnTy S d cs := ht
          cases e
          exact ht.ins c hc
        | _ => cases e; exact I.nt _ (by decide)
      exact ⟨_, .base (.ins (ex _ _ q1) I.cl I.ha I.hn I.htk I.hm), fun t ht b e => h1 t (hf t ht) b e, fun b hb => one hf h1 b hb⟩
    | cls c =>
      cases ts with
      | nil => exact absurd rfl hne
      | cons t ts =>
        unfold tyAny at h
        cases t <;> cases h
    | _ => cases hk
end
end PyI

/-! PyI C: what a def promises while nothing is being shown around it; calls by name, of methods, of properties, of classes. -/
namespace PyI
open PySem PySem.Spec PyProof.Rows L2
open Evl (Ex)
open StX (run_bnd env0_laid un_laid)
section
variable {P : Program} {w : World} {K : PySem.W.Frag} {mg : Str → Option Value} {base : Heap} {CT : CXT} {j k : Nat} {f : Addr} {fd : FuncData} {ps : List Str} {sp sp' : Sp}
/-- by what the parameters are bound to -/
structure GoF (P : Program) (w : World) (K : PySem.W.Frag) (mg : Str → Option Value) (base : Heap) (CT : CXT) (k : Nat) (f : Addr) (fd : FuncData) (ps : List Str) (sp : Sp) : Prop where
  len : ∀ vs H Q E, sp vs H Q E → vs.length = ps.length
  go : ∀ (A : Around) (outer : List PySem.Env) (s : Shared) (H : Hp) (as : Args) (us : List Value) (vs : List V) (Q : VK) (E : XK), A.guards = some [] → Room k A → Env0 P w K mg base A outer s H →
    BindsTo s fd as (ps.zip us) → Vals vs us → sp vs H Q E → codeAny (model P w) A (.call (.ref f) as) (CR CT outer P w H s Q E) s
/-- by the values that are handed over -/
def GoR (P : Program) (w : World) (K : PySem.W.Frag) (mg : Str → Option Value) (base : Heap) (CT : CXT) (k : Nat) (f : Addr) (sp : Sp) : Prop :=
  ∀ (A : Around) (outer : List PySem.Env) (s : Shared) (H : Hp) (us : List Value) (vs : List V) (Q : VK) (E : XK), A.guards = some [] → Room k A → Env0 P w K mg base A outer s H →
    Vals vs us → sp vs H Q E → codeAny (model P w) A (.call (.ref f) ⟨us, []⟩) (CR CT outer P w H s Q E) s
theorem GoR.imp (F : GoR P w K mg base CT k f sp) (h : ∀ vs H Q E, sp' vs H Q E → sp vs H Q E) : GoR P w K mg base CT k f sp' :=
  fun A outer s H us vs Q E hg hr e0 r q => F A outer s H us vs Q E hg hr e0 r (h _ _ _ _ q)
theorem GoF.imp (F : GoF P w K mg base CT k f fd ps sp) (h : ∀ vs H Q E, sp' vs H Q E → sp vs H Q E) : GoF P w K mg base CT k f fd ps sp' :=
  ⟨fun vs H Q E q => F.len vs H Q E (h _ _ _ _ q), fun A outer s H as us vs Q E hg hr e0 hb r q => F.go A outer s H as us vs Q E hg hr e0 hb r (h _ _ _ _ q)⟩
/-- the defaults fill up -/
theorem GoF.raw {ds : List Value} {dvs : List V} (F : GoF P w K mg base CT k f fd ps sp) (hb : Binds K fd ps ds) (hd : Vals dvs ds) : GoR P w K mg base CT k f (fun vs H Q E => sp (vs ++ dvs) H Q E) := by
  intro A outer s H us vs Q E hg hr e0 r q
  have r' := r.append hd
  have kin : K.In s.heap := e0.mod.kin.keeps fun b o e => (e0.bs b o e).1
  exact F.go A outer s H ⟨us, []⟩ (us ++ ds) (vs ++ dvs) Q E hg hr e0 (hb s us kin (by rw [← r'.length]; exact F.len _ _ _ _ q)) r' q
/-- from the body -/
theorem gof_of {name qual : Str} {params : Arguments} {body : List Stmt} {scope : Scope} {dV kV doc pm cdv ct oc : Value} {an od : Option Addr} {osl : Array (Option Value)} {N : List Str}
    (lk : K.lookup f = some ⟨oc, od, .func (PySem.W.fnOf name qual params body scope dV kV doc pm an cdv ct), osl⟩) (hcd : PySem.W.codeIn K cdv qual = true) (sc : FnScope N ps scope) (len : ∀ vs H Q E, sp vs H Q E → vs.length = ps.length)
    (hb : ∀ (A : Around) (outer : List PySem.Env) (s : Shared) (H : Hp) (vs : List V) (Q : VK) (E : XK), A.guards = some [] → Room k (A.deeper (envOfC qual scope s.heap.objs.size f cdv)) → sp vs H Q E →
      ∃ t, PSs (cxOf CT P w K mg base N qual scope f cdv A outer s H E) body t ∧ t { nx := fun _ H' => Q .non H', rt := Q } (start N vs) H) :
    GoF P w K mg base CT (k + 1) f (PySem.W.fnOf name qual params body scope dV kV doc pm an cdv ct) ps sp := by
  refine ⟨len, fun A outer s H as us vs Q E hg hr e0 bt r q => ?_⟩
  refine run_bnd (G := fun xs H2 => xs = vs ∧ H2 = H) lk hcd sc hr e0 (fun A' Ex Q' z => bt _ A' Ex Q' (z s H vs us e0 .refl rfl (fun _ _ x => x) r (len _ _ _ _ q) ⟨rfl, rfl⟩)) fun s2 H2 xs g hr2 => ?_
  obtain ⟨e1, e2⟩ := g
  subst e1 e2
  exact hb A outer s2 _ _ Q E hg hr2 q
/-- a def with a starred parameter, from its body -/
theorem gor_star {name qual pv : Str} {params : Arguments} {body : List Stmt} {scope : Scope} {dV kV doc pm cdv ct oc : Value} {an od : Option Addr} {osl : Array (Option Value)} {N : List Str}
    (lk : K.lookup f = some ⟨oc, od, .func (PySem.W.fnOf name qual params body scope dV kV doc pm an cdv ct), osl⟩) (hcd : PySem.W.codeIn K cdv qual = true) (sc : FnScope N (ps ++ [pv]) scope) (hCX : StX.CXUp CT)
    (bd : ∀ us rest : List Value, us.length = ps.length → bindArgs (PySem.W.fnOf name qual params body scope dV kV doc pm an cdv ct) ⟨us ++ rest, []⟩ = (newTuple rest >>= fun t => pure (ps.zip us ++ [(pv, t)])))
    (hb : ∀ (A : Around) (outer : List PySem.Env) (s : Shared) (H : Hp) (vs : List V) (Q : VK) (E : XK), A.guards = some [] → Room k (A.deeper (envOfC qual scope s.heap.objs.size f cdv)) → sp vs H Q E →
      ∃ t, PSs (cxOf CT P w K mg base N qual scope f cdv A outer s H E) body t ∧ t { nx := fun _ H' => Q .non H', rt := Q } (start N vs) H) :
    GoR P w K mg base CT (k + 1) f (fun vs H Q E => ∃ ws rest, vs = ws ++ rest ∧ ws.length = ps.length ∧ rest.length ≤ sizeLine ∧ ∀ p, H p = Option.none → sp (ws ++ [V.ref p]) (upd H p (.tup rest)) Q E) := by
  intro A outer s H us vs Q E hg hr e0 r q
  obtain ⟨ws, rest, rfl, hl, hz, hq⟩ := q
  obtain ⟨u1, u2, rfl, r1, r2⟩ := StX.vals_split r
  have hn : H s.heap.objs.size = Option.none := e0.hok.fresh (Nat.le_refl _)
  refine run_bnd (G := fun xs H2 => ∃ p, H p = Option.none ∧ xs = ws ++ [V.ref p] ∧ H2 = upd H p (.tup rest)) lk hcd sc hr e0 (fun A' Ex Q' z => ?_) fun s2 H2 xs g hr2 => ?_
  · have l1 : u1.length = ps.length := r1.length ▸ hl
    rw [bd u1 u2 l1]
    have z2 : u2.length ≤ sizeLine := r2.length ▸ hz
    refine wpAny_bind (wpAny_newTuple (wpAny_pure ?_) z2)
    have nw : ObjOk P w (upd H s.heap.objs.size (.tup rest)) (s.heap.push ({ cls := .type "tuple", data := .seq u2.toArray } : Obj)) s.heap.objs.size (.tup rest) :=
      ⟨hz, u2, r2, ⟨_, Heap.get?_push_size _ rfl, rfl, _, rfl⟩⟩
    have un := un_laid (fs := frs outer) (s := s) (o := ({ cls := .type "tuple", data := .seq u2.toArray } : Obj)) (u := .tup rest) hn
    have y := z { s with heap := s.heap.push ({ cls := .type "tuple", data := .seq u2.toArray } : Obj) } (upd H s.heap.objs.size (.tup rest)) (ws ++ [V.ref s.heap.objs.size]) (u1 ++ [Value.ref s.heap.objs.size]) (env0_laid e0 nw) un rfl
      (fun e s' => hCX outer s H _ _ E e s' un (fun b o q => Heap.get?_push_of_some _ q) rfl) (r1.append (.cons rfl .nil)) (by simp [hl]) ⟨_, hn, rfl, rfl⟩
    rwa [List.zip_append l1.symm] at y
  · obtain ⟨p, hp, e1, e2⟩ := g
    subst e1 e2
    exact hb A outer s2 _ _ Q E hg hr2 (hq p hp)
end

/-! ### calls -/
section
variable {X : Cx} {CT : CXT} {k : Nat} {f g C p : Addr} {fd : FuncData} {ps : List Str} {ds : List Value} {dvs : List V} {sp : Sp} {E : Sl → XK} {x m : Str} {e o : Expr} {es : List Expr} {t : TA} {ta : TE} {np pos apos : Pos}
def Gone (X : Cx) (pins : List (Addr × Obj)) (σ : Sl) (Q : VK) (r : Result) (s' : Shared) : Prop := match r with | .ok (.ret v) => EP X pins σ Q v s' | .ok _ => False | .error e => X.xe e s'
/-- the callee's end is the call's -/
theorem gone_by {σ : Sl} {pins : List (Addr × Obj)} {H : Hp} {s : Shared} {Q : VK} (hx : PassesAt CT X σ (E σ)) (I : Inv X pins σ H s) {r : Result} {s' : Shared} (h : CR CT X.stack X.prog X.w H s Q (E σ) r s') : Gone X pins σ Q r s' := by
  cases r with
  | error er => exact hx pins H s er s' I h
  | ok fl => cases fl with
    | ret u => exact I.after h
    | _ => exact h
theorem run_go {σ : Sl} {pins : List (Addr × Obj)} {H : Hp} {s : Shared} {Q : VK} {us : List Value} {vs : List V} (F : GoR X.prog X.w X.K X.mg X.base CT k f sp) (hg : X.A.guards = some []) (hr : Room k X.A) (hx : PassesAt CT X σ (E σ)) (I : Inv X pins σ H s)
    (r : Vals vs us) (h : sp vs H Q (E σ)) : wpAny (model X.prog X.w) X.A (call (.ref f) us) (EP X pins σ Q) X.xe s :=
  wpAny_call (codeAny_mono (F X.A X.stack s H us vs Q (E σ) hg hr I.env0 r h) fun _ _ z => gone_by hx I z)
theorem run_gok {σ : Sl} {pins : List (Addr × Obj)} {H : Hp} {s : Shared} {Q : VK} {us ws : List Value} {vs zs : List V} {ks : List Str} {gU : List Value → List Value → List Value} {gV : List V → List V → List V}
    (F : GoF X.prog X.w X.K X.mg X.base CT k f fd ps sp) (hg : X.A.guards = some []) (hr : Room k X.A) (hb : KBinds X.K fd ps ks gU gV) (hx : PassesAt CT X σ (E σ)) (I : Inv X pins σ H s) (r : Vals vs us) (rz : Vals zs ws)
    (h : sp (gV vs zs) H Q (E σ)) : wpAny (model X.prog X.w) X.A (call (.ref f) us (ks.zip ws)) (EP X pins σ Q) X.xe s := by
  have r2 := hb.rel r rz
  exact wpAny_call (codeAny_mono (F.go X.A X.stack s H ⟨us, ks.zip ws⟩ (gU us ws) (gV vs zs) Q (E σ) hg hr I.env0 (hb.to s us ws I.kIn (by rw [← r2.length]; exact F.len _ _ _ _ h)) r2 h) fun _ _ z => gone_by hx I z)
/-- a def by its name -/
theorem pe_go (F : GoR X.prog X.w X.K X.mg X.base CT k f sp) (hg : X.A.guards = some []) (hr : Room k X.A) (gl : Gl X x) (hm : X.mg x = some (.ref f)) (hk : PySem.W.keepIn X.K (.ref f) = true) (hx : ∀ σ, PassesAt CT X σ (E σ)) (ha : PA X (e :: es) t)
    (hd : (x == ("__debug__" : Str)) = false) (he : starEach (e :: es) X.env = (false, eval e X.env) :: starEach es X.env) (hp : (backTo pos (starEach es X.env)).any (·.1) = false) :
    PE X (.Call (.Name x np) (e :: es) [] pos) (fun σ H Q => t σ H fun vs H1 => sp vs H1 Q (E σ)) :=
  ⟨fun pins s σ H Q I h => wpAny_Call_Name_kw (ld_glob I gl hm (PySem.W.callWith_K (h₀ := X.base) I.ok.mod.kin hk (thn (ha.run pos pins s σ H _ I h) fun us s1 ⟨vs, H1, I1, r, q⟩ => ⟨I1.kIn, run_go F hg hr (hx σ) I1 r q⟩) he hp) hd)⟩
theorem pe_go0 (F : GoR X.prog X.w X.K X.mg X.base CT k f sp) (hg : X.A.guards = some []) (hr : Room k X.A) (gl : Gl X x) (hm : X.mg x = some (.ref f)) (hk : PySem.W.keepIn X.K (.ref f) = true) (hx : ∀ σ, PassesAt CT X σ (E σ)) (hd : (x == ("__debug__" : Str)) = false) :
    PE X (.Call (.Name x np) [] [] pos) (fun σ H Q => sp [] H Q (E σ)) :=
  ⟨fun pins s σ H Q I h => wpAny_Call_Name_kw (ld_glob I gl hm (PySem.W.callWith_K0 I.kIn hk (run_go (us := []) F hg hr (hx σ) I .nil h)) hd)⟩
/-- what a call of an attribute does -/
abbrev CallsAttr (o : Expr) (m : Str) (apos pos : Pos) (args : List Expr) (env : PySem.Env) (pl : Sem Bool) : Prop := eval (.Call (.Attribute o m apos) args [] pos) env = (do
  let ov ← eval o env
  standAt apos.atName
  let (f, first) ← holding [ov] (getMethod ov m pl)
  callWith pos f first (backTo pos (starEach args env)) (backToKw pos (keywordEach [] env)))
/-- a method of an instance; which class it is of, i tells -/
def tGom {ι : Type} (ok : ι → Prop) (C : ι → Addr) (m : Str) (sp : ι → Sp) (E : Sl → XK) (ta : TE) (t : TA) : TE := fun σ H Q => ta σ H fun x H1 => ∃ i a dx fs, ok i ∧ x = .ref a ∧ H1 a = some (.ins (C i) dx fs) ∧ fs.lookup m = none ∧ t σ H1 fun vs H2 => sp i (x :: vs) H2 Q (E σ)
theorem pe_gom {ι : Type} {ok : ι → Prop} {C f : ι → Addr} {sp : ι → Sp} {pl : Sem Bool} (ho : PE X o ta) (c : ∀ i, ok i → Cls X.K (C i) ∧ Meth X.K (C i) m (f i) ∧ GoR X.prog X.w X.K X.mg X.base CT k (f i) (sp i)) (hg : X.A.guards = some []) (hr : Room k X.A) (hx : ∀ σ, PassesAt CT X σ (E σ)) (ha : PA X (e :: es) t)
    (he : starEach (e :: es) X.env = (false, eval e X.env) :: starEach es X.env) (hp : (backTo pos (starEach es X.env)).any (·.1) = false) (ht : CallsAttr o m apos pos (e :: es) X.env pl) :
    PE X (.Call (.Attribute o m apos) (e :: es) [] pos) (tGom ok C m sp E ta t) := by
  refine ⟨fun pins s σ H Q I h => PySem.W.methodCall_KW (pl := pl) (thn (ho.run pins s σ H _ I h) fun u s1 z => ?_) ht⟩
  obtain ⟨x, H1, I1, rx, i, a, dx, fs, oi, rfl, ea, l, q⟩ := z
  cases (show u = Value.ref a from rx)
  obtain ⟨c, hm, F⟩ := c i oi
  refine getmeth_ok I1 ea c hm l (PySem.W.callWith_K (first := [.ref a]) (h₀ := X.base) I.ok.mod.kin hm.kp (thn (ha.run pos pins s1 σ H1 _ I1 q) fun us s2 y => ?_) he hp)
  obtain ⟨vs, H2, I2, r, q2⟩ := y
  exact ⟨I2.kIn, run_go (us := .ref a :: us) F hg hr (hx σ) I2 (.cons (show L2.RelV (V.ref a) _ from rfl) r) q2⟩
theorem pe_gom0 {ι : Type} {ok : ι → Prop} {C f : ι → Addr} {sp : ι → Sp} {pl : Sem Bool} (ho : PE X o ta) (c : ∀ i, ok i → Cls X.K (C i) ∧ Meth X.K (C i) m (f i) ∧ GoR X.prog X.w X.K X.mg X.base CT k (f i) (sp i)) (hg : X.A.guards = some []) (hr : Room k X.A) (hx : ∀ σ, PassesAt CT X σ (E σ))
    (ht : CallsAttr o m apos pos [] X.env pl) : PE X (.Call (.Attribute o m apos) [] [] pos) (tGom ok C m sp E ta tNil) := by
  refine ⟨fun pins s σ H Q I h => PySem.W.methodCall_KW (pl := pl) (thn (ho.run pins s σ H _ I h) fun u s1 z => ?_) ht⟩
  obtain ⟨x, H1, I1, rx, i, a, dx, fs, oi, rfl, ea, l, q⟩ := z
  cases (show u = Value.ref a from rx)
  obtain ⟨c, hm, F⟩ := c i oi
  refine getmeth_ok I1 ea c hm l (PySem.W.callWith_K0 (first := [.ref a]) I1.kIn hm.kp ?_)
  exact run_go (us := [.ref a]) F hg hr (hx σ) I1 (.cons (show L2.RelV (V.ref a) _ from rfl) .nil) q
/-- a property of an instance; its getter raises nothing -/
def tGop {ι : Type} (ok : ι → Prop) (C : ι → Addr) (sp : ι → Sp) (ta : TE) : TE := fun σ H Q => ta σ H fun x H1 => ∃ i a dx fs, ok i ∧ x = .ref a ∧ H1 a = some (.ins (C i) dx fs) ∧ sp i [.ref a] H1 Q fun _ _ _ => False
theorem pe_gop {ι : Type} {ok : ι → Prop} {C f : ι → Addr} {sp : ι → Sp} (ho : PE X o ta) (c : ∀ i, ok i → Cls X.K (C i) ∧ (∃ q, PropOf X.K (C i) m q (f i)) ∧ GoR X.prog X.w X.K X.mg X.base CT k (f i) (sp i)) (hg : X.A.guards = some []) (hr : Room (k + 1) X.A)
    (hx : ∀ (st : List PySem.Env) (H : Hp) (s : Shared) (e : Value) (s' : Shared), CT st H s (fun _ _ _ => False) e s' → False) (hb : attributeBase o m X.env (eval o X.env) = eval o X.env) : PE X (.Attribute o m pos) (tGop ok C sp ta) := by
  refine ⟨fun pins s σ H Q I h => attr_of hb (thn (ho.run pins s σ H _ I h) fun u s1 z => ?_)⟩
  obtain ⟨x, H1, I1, rx, i, a, dx, fs, oi, rfl, ea, w⟩ := z
  cases (show u = Value.ref a from rx)
  obtain ⟨c, ⟨q, hp⟩, F⟩ := c i oi
  obtain ⟨mA, O, _, _, _, _⟩ := ins_get I1.hok ea
  obtain ⟨od, J, _⟩ := O.look
  obtain ⟨rest, hrec⟩ := hp.rec_
  have I2 := I1.tok (s1.toks + 1)
  have hc : (PySem.W.clsIn X.K (C i)).isSome = true := by
    obtain ⟨cd, hc, _⟩ := PySem.W.any_some c.hd
    simp [hc]
  refine PySem.W.get_bind I1.kIn J (PySem.W.plainGet_of (c.get m)).1 (PySem.W.findObj_data hc hp.at_ hp.get hp.tak) (PySem.W.plainGet_of (c.get m)).2 (wpAny_call (PySem.W.prop_get (s := { s1 with toks := s1.toks + 1 }) I1.kIn hrec ?_))
  refine codeAny_mono (F X.A.in1 X.stack { s1 with toks := s1.toks + 1 } H1 [.ref a] [.ref a] Q (fun _ _ _ => False) hg hr.in1 I2.env0.in1 (.cons rfl .nil) w) fun r s' y => ?_
  match r, y with
  | .error er, y => exact (hx _ _ _ _ _ y).elim
  | .ok .next, y => exact False.elim y
  | .ok .brk, y => exact False.elim y
  | .ok .cont, y => exact False.elim y
  | .ok (.ret u), y =>
    obtain ⟨v, H', I3, rv, q3⟩ := I2.after y
    show wpAny _ _ (handedOut u) _ _ _
    rw [PySem.W.handedOut_of (handed_of rv)]
    exact wpAny_pure ⟨v, H', I3, rv, q3⟩
/-- a new instance -/
def tGon (C : Addr) (sp : Sp) (E : Sl → XK) (t : TA) : TE := fun σ H Q => t σ H fun vs H1 => ∀ a dx, H1 a = none → H1 dx = none → dx ≠ a → sp (.ref a :: vs) (upd (upd H1 dx (.own a)) a (.ins C dx [])) (fun v H2 => v = .non ∧ Q (.ref a) H2) (E σ)
theorem guards_make {A : Around} (h : A.guards = some []) (C : Addr) (us : List Value) : (A.under (.builtin "type.__call__" ⟨.ref C :: us, []⟩)).guards = some [] := by
  have e : (Code.builtin "type.__call__" ⟨.ref C :: us, []⟩).isGuard = false := by
    show guardIds.contains "type.__call__" = false
    decide +kernel
  simp [Around.under, Code.guards, e, pushGuards, h]
theorem run_gon {σ : Sl} {pins : List (Addr × Obj)} {H : Hp} {s : Shared} {Q : VK} {us : List Value} {vs : List V} (M : Mk X.K C f) (F : GoR X.prog X.w X.K X.mg X.base CT k f sp) (hg : X.A.guards = some []) (hr : Room (k + 1) X.A) (hx : ∀ σ, PassesAt CT X σ (E σ))
    (I : Inv X pins σ H s) (r : Vals vs us) (h : ∀ a dx, H a = none → H dx = none → dx ≠ a → sp (.ref a :: vs) (upd (upd H dx (.own a)) a (.ins C dx [])) (fun v H2 => v = .non ∧ Q (.ref a) H2) (E σ)) :
    wpAny (model X.prog X.w) X.A (call (.ref C) us) (EP X pins σ Q) X.xe s := by
  have w := h (s.heap.objs.size + 1) s.heap.objs.size (I.hok.fresh (Nat.le_succ _)) (I.hok.fresh (Nat.le_refl _)) (Nat.ne_of_lt (Nat.lt_succ_self _))
  have I2 := Inv.made (C := C) I
  refine wpAny_call (make_map (f := f) I.kIn M.makes M.init (beq_iff_eq.mp M.fn) ?_)
  refine codeAny_mono (F _ X.stack _ _ (Value.ref (s.heap.objs.size + 1) :: us) (V.ref (s.heap.objs.size + 1) :: vs) _ _ (guards_make hg C us) (hr.make C us []) (I2.env0.make C us []) (.cons rfl r) w) fun r s' y => ?_
  match r, y with
  | .error er, y => exact hx σ pins _ _ er s' I2 y
  | .ok .next, y => exact False.elim y
  | .ok .brk, y => exact False.elim y
  | .ok .cont, y => exact False.elim y
  | .ok (.ret u), y =>
    obtain ⟨v, H', I3, rv, rfl, q3⟩ := I2.after y
    exact ⟨rv, V.ref (s.heap.objs.size + 1), H', I3, rfl, q3⟩
theorem pe_gon (M : Mk X.K C f) (F : GoR X.prog X.w X.K X.mg X.base CT k f sp) (hg : X.A.guards = some []) (hr : Room (k + 1) X.A) (gl : Gl X x) (hm : X.mg x = some (.ref C)) (hx : ∀ σ, PassesAt CT X σ (E σ)) (ha : PA X (e :: es) t)
    (hd : (x == ("__debug__" : Str)) = false) (he : starEach (e :: es) X.env = (false, eval e X.env) :: starEach es X.env) (hp : (backTo pos (starEach es X.env)).any (·.1) = false) : PE X (.Call (.Name x np) (e :: es) [] pos) (tGon C sp E t) :=
  ⟨fun pins s σ H Q I h => wpAny_Call_Name_kw (ld_glob I gl hm (PySem.W.callWith_K (h₀ := X.base) I.ok.mod.kin M.kp (thn (ha.run pos pins s σ H _ I h) fun us s1 ⟨vs, H1, I1, r, q⟩ => ⟨I1.kIn, run_gon M F hg hr hx I1 r q⟩) he hp) hd)⟩
theorem pe_gon0 (M : Mk X.K C f) (F : GoR X.prog X.w X.K X.mg X.base CT k f sp) (hg : X.A.guards = some []) (hr : Room (k + 1) X.A) (gl : Gl X x) (hm : X.mg x = some (.ref C)) (hx : ∀ σ, PassesAt CT X σ (E σ)) (hd : (x == ("__debug__" : Str)) = false) :
    PE X (.Call (.Name x np) [] [] pos) (tGon C sp E tNil) :=
  ⟨fun pins s σ H Q I h => wpAny_Call_Name_kw (ld_glob I gl hm (PySem.W.callWith_K0 I.kIn M.kp (run_gon (us := []) M F hg hr hx I .nil h)) hd)⟩
theorem run_gocm {q : Addr} {g : Addr} {E : XK} {σ : Sl} {pins : List (Addr × Obj)} {H : Hp} {s : Shared} {Q : VK} {us : List Value} {vs : List V} (F : GoR X.prog X.w X.K X.mg X.base CT k g sp) (hg : X.A.guards = some []) (hr : Room k X.A) (hx : PassesAt CT X σ E)
    (I : Inv X ((q, PySem.W.methodObj (.ref g) (.ref C)) :: pins) σ H s) (r : Vals vs us) (h : sp (.ref C :: vs) H Q E) : wpAny (model X.prog X.w) X.A (call (.ref q) us) (EP X pins σ Q) X.xe s := by
  have z : wpAny (model X.prog X.w) X.A (call (.ref q) us) (EP X ((q, PySem.W.methodObj (.ref g) (.ref C)) :: pins) σ Q) X.xe s :=
    wpAny_call (PySem.W.method_call (ClX.pin_at I) (codeAny_mono (F X.A X.stack s H (.ref C :: us) (.ref C :: vs) Q E hg hr I.env0 (.cons rfl r) h) fun _ _ z => gone_by (E := fun _ => E) hx I z))
  exact thn z fun _ _ y => ClX.unpinE y
/-- C.m(..), m a classmethod -/
theorem pe_gocm {mc : Value} {pl : Sem Bool} {g : Addr} (F : GoR X.prog X.w X.K X.mg X.base CT k g sp) (hg : X.A.guards = some []) (hr : Room k X.A) (gl : Gl X x) (hm : X.mg x = some (.ref C)) (r : ClX.CRead X.K C mc) (c : ClX.CMet X.K C mc m p g) (hx : ∀ σ, PassesAt CT X σ (E σ)) (ha : PA X (e :: es) t)
    (hd : (x == ("__debug__" : Str)) = false) (he : starEach (e :: es) X.env = (false, eval e X.env) :: starEach es X.env) (hp : (backTo pos (starEach es X.env)).any (·.1) = false) (ht : CallsAttr (.Name x np) m apos pos (e :: es) X.env pl) :
    PE X (.Call (.Attribute (.Name x np) m apos) (e :: es) [] pos) (fun σ H Q => t σ H fun vs H1 => sp (.ref C :: vs) H1 Q (E σ)) := by
  refine ⟨fun pins s σ H Q I h => ?_⟩
  refine PySem.W.methodCall_KW (pl := pl) (ld_glob I gl hm ?_ hd) ht
  refine ClX.getmethcm_ok I r c fun s2 I2 => ?_
  refine ClX.callwith_cm I2 (ClX.base_none I (Nat.le_refl _)) c.fi (thn (ha.run pos _ s2 σ H _ I2 h) fun us s3 ⟨vs, H2, I3, rv, q2⟩ => ⟨⟨ClX.pin_at I3, I3.kIn⟩, ?_⟩) he hp
  exact run_gocm F hg hr (hx σ) I3 rv q2
theorem pe_gocm0 {mc : Value} {pl : Sem Bool} {g : Addr} (F : GoR X.prog X.w X.K X.mg X.base CT k g sp) (hg : X.A.guards = some []) (hr : Room k X.A) (gl : Gl X x) (hm : X.mg x = some (.ref C)) (r : ClX.CRead X.K C mc) (c : ClX.CMet X.K C mc m p g) (hx : ∀ σ, PassesAt CT X σ (E σ))
    (hd : (x == ("__debug__" : Str)) = false) (ht : CallsAttr (.Name x np) m apos pos [] X.env pl) :
    PE X (.Call (.Attribute (.Name x np) m apos) [] [] pos) (fun σ H Q => sp [.ref C] H Q (E σ)) := by
  refine ⟨fun pins s σ H Q I h => ?_⟩
  refine PySem.W.methodCall_KW (pl := pl) (ld_glob I gl hm ?_ hd) ht
  refine ClX.getmethcm_ok I r c fun s2 I2 => ?_
  exact PySem.W.callWith_M0 (K := X.K) ⟨ClX.pin_at I2, I2.kIn⟩ c.fi (run_gocm (us := []) (vs := []) F hg hr (hx σ) I2 .nil h)
/-- v(..), v a variable that holds the class -/
theorem pe_gonv {i : Nat} (M : Mk X.K C f) (F : GoR X.prog X.w X.K X.mg X.base CT k f sp) (hg : X.A.guards = some []) (hr : Room (k + 1) X.A) (hN : X.N[i]? = some x) (hv : Vis X.env.scope x) (hx : ∀ σ, PassesAt CT X σ (E σ)) (ha : PA X (e :: es) t)
    (hd : (x == ("__debug__" : Str)) = false) (hcd : (x == ("__classdict__" : Str)) = false) (he : starEach (e :: es) X.env = (false, eval e X.env) :: starEach es X.env) (hp : (backTo pos (starEach es X.env)).any (·.1) = false) :
    PE X (.Call (.Name x np) (e :: es) [] pos) (fun σ H Q => σ[i]? = some (some (V.ref C)) ∧ tGon C sp E t σ H Q) := by
  refine ⟨fun pins s σ H Q I h => wpAny_Call_Name_kw (thn ((pe_var (pos := np) hN hv hd hcd).run pins s σ H (fun v H1 => v = V.ref C ∧ tGon C sp E t σ H1 Q) I ⟨V.ref C, h.1, rfl, h.2⟩) fun u s1 z => ?_)⟩
  obtain ⟨v, H1, I1, rv, rfl, q⟩ := z
  cases (show u = Value.ref C from rv)
  exact PySem.W.callWith_K (h₀ := X.base) I.ok.mod.kin M.kp (thn (ha.run pos pins s1 σ H1 _ I1 q) fun us s2 ⟨vs, H2, I2, r, q2⟩ => ⟨I2.kIn, run_gon M F hg hr hx I2 r q2⟩) he hp
/-- C.m is a staticmethod: its record at p, its def at g -/
structure SMet (K : PySem.W.Frag) (C : Addr) (mc : Value) (m : Str) (p g : Addr) : Prop where
  at_ : PySem.W.findCls K (.ref C) mc m = some (.get (.builtin "staticmethod.__get__") (.ref p) .none (.ref C))
  rc : ∃ rest, PySem.W.recIn K p "staticmethod" = some (.ref g :: rest)
  kp : PySem.W.keepIn K (.ref g) = true
/-- C.m(..), m a staticmethod -/
theorem pe_gosm {mc : Value} {pl : Sem Bool} {g : Addr} (F : GoR X.prog X.w X.K X.mg X.base CT k g sp) (hg : X.A.guards = some []) (hr : Room k X.A) (gl : Gl X x) (hm : X.mg x = some (.ref C)) (r : ClX.CRead X.K C mc) (c : SMet X.K C mc m p g) (hx : ∀ σ, PassesAt CT X σ (E σ)) (ha : PA X (e :: es) t)
    (hd : (x == ("__debug__" : Str)) = false) (he : starEach (e :: es) X.env = (false, eval e X.env) :: starEach es X.env) (hp : (backTo pos (starEach es X.env)).any (·.1) = false) (ht : CallsAttr (.Name x np) m apos pos (e :: es) X.env pl) :
    PE X (.Call (.Attribute (.Name x np) m apos) (e :: es) [] pos) (fun σ H Q => t σ H fun vs H1 => sp vs H1 Q (E σ)) := by
  refine ⟨fun pins s σ H Q I h => ?_⟩
  refine PySem.W.methodCall_KW (pl := pl) (ld_glob I gl hm ?_ hd) ht
  obtain ⟨rest, rc⟩ := c.rc
  refine PySem.W.method_cls I.kIn r.ga (PySem.W.cls_bind I.kIn r.rd c.at_ ?_)
  have I2 := I.tok (s.toks + 1)
  refine wpAny_call (PySem.W.sm_get (s := { s with toks := s.toks + 1 }) I.kIn rc (PySem.W.handed_on rfl ?_))
  exact PySem.W.callWith_K (first := []) (h₀ := X.base) I.ok.mod.kin c.kp (thn (ha.run pos pins _ σ H _ I2 h) fun us s2 ⟨vs, H2, I3, rv, q2⟩ => ⟨I3.kIn, run_go F hg hr (hx σ) I3 rv q2⟩) he hp
/-- a new instance, some arguments by name -/
def tGonK (C : Addr) (n m : Nat) (sp : Sp) (gV : List V → List V → List V) (E : Sl → XK) (t tk : TA) : TE := fun σ H Q => t σ H fun vs H1 => tk σ H1 fun zs H2 => vs.length = n ∧ zs.length = m ∧
  ∀ a dx, H2 a = none → H2 dx = none → dx ≠ a → sp (gV (.ref a :: vs) zs) (upd (upd H2 dx (.own a)) a (.ins C dx [])) (fun v H3 => v = .non ∧ Q (.ref a) H3) (E σ)
theorem run_gonK {n : Nat} {ks : List Str} {gU : List Value → List Value → List Value} {gV : List V → List V → List V} {σ : Sl} {pins : List (Addr × Obj)} {H : Hp} {s : Shared} {Q : VK} {us ws : List Value} {vs zs : List V} (M : Mk X.K C f)
    (F : GoF X.prog X.w X.K X.mg X.base CT k f fd ps sp) (hg : X.A.guards = some []) (hr : Room (k + 1) X.A) (hb : KBn X.K fd ps (n + 1) ks gU gV) (hx : ∀ σ, PassesAt CT X σ (E σ)) (I : Inv X pins σ H s) (r : Vals vs us) (rz : Vals zs ws) (l1 : vs.length = n) (l2 : zs.length = ks.length)
    (h : ∀ a dx, H a = none → H dx = none → dx ≠ a → sp (gV (.ref a :: vs) zs) (upd (upd H dx (.own a)) a (.ins C dx [])) (fun v H2 => v = .non ∧ Q (.ref a) H2) (E σ)) :
    wpAny (model X.prog X.w) X.A (call (.ref C) us (ks.zip ws)) (EP X pins σ Q) X.xe s := by
  have want := h (s.heap.objs.size + 1) s.heap.objs.size (I.hok.fresh (Nat.le_succ _)) (I.hok.fresh (Nat.le_refl _)) (Nat.ne_of_lt (Nat.lt_succ_self _))
  have J := Inv.made (C := C) I
  have full : Vals (V.ref (s.heap.objs.size + 1) :: vs) (Value.ref (s.heap.objs.size + 1) :: us) := .cons rfl r
  have cnt : (Value.ref (s.heap.objs.size + 1) :: us).length = n + 1 := by rw [List.length_cons, ← r.length, l1]
  have gd : (X.A.under (.builtin "type.__call__" ⟨.ref C :: us, ks.zip ws⟩)).guards = some [] := by
    have e : (Code.builtin "type.__call__" ⟨.ref C :: us, ks.zip ws⟩).isGuard = false := by
      show guardIds.contains "type.__call__" = false
      decide +kernel
    simp [Around.under, Code.guards, e, pushGuards, hg]
  refine wpAny_call (make_map (f := f) I.kIn M.makes M.init (beq_iff_eq.mp M.fn) ?_)
  refine codeAny_mono (F.go _ X.stack _ _ ⟨Value.ref (s.heap.objs.size + 1) :: us, ks.zip ws⟩ (gU (Value.ref (s.heap.objs.size + 1) :: us) ws) _ _ _ gd (hr.make C us (ks.zip ws)) (J.env0.make C us (ks.zip ws))
    (hb.to _ (Value.ref (s.heap.objs.size + 1) :: us) ws J.kIn cnt (rz.length.symm.trans l2)) (hb.rel full rz) want) fun r s' y => ?_
  match r, y with
  | .error er, y => exact hx σ pins _ _ er s' J y
  | .ok .next, y => exact False.elim y
  | .ok .brk, y => exact False.elim y
  | .ok .cont, y => exact False.elim y
  | .ok (.ret u), y =>
    obtain ⟨v, H', I3, rv, rfl, q3⟩ := J.after y
    exact ⟨rv, V.ref (s.heap.objs.size + 1), H', I3, rfl, q3⟩
theorem pe_gonK {n : Nat} {ks : List Str} {gU : List Value → List Value → List Value} {gV : List V → List V → List V} {kws : List Keyword} {tk : TA} (M : Mk X.K C f) (F : GoF X.prog X.w X.K X.mg X.base CT k f fd ps sp) (hg : X.A.guards = some []) (hr : Room (k + 1) X.A)
    (hb : KBn X.K fd ps (n + 1) ks gU gV) (gl : Gl X x) (hm : X.mg x = some (.ref C)) (hx : ∀ σ, PassesAt CT X σ (E σ)) (ha : PA X (e :: es) t) (hkw : PK X kws tk)
    (hall : (backToKw pos (keywordEach kws X.env)).all (·.1.isSome) = true) (hks : (backToKw pos (keywordEach kws X.env)).filterMap (·.1) = ks) (hd : (x == ("__debug__" : Str)) = false)
    (he : starEach (e :: es) X.env = (false, eval e X.env) :: starEach es X.env) (hpl : ((backTo pos (starEach (e :: es) X.env)).any (·.1) || (backToKw pos (keywordEach kws X.env)).any (·.1.isNone)) = false) :
    PE X (.Call (.Name x np) (e :: es) kws pos) (tGonK C n ks.length sp gV E t tk) := by
  refine ⟨fun pins s σ H Q I h => ?_⟩
  refine wpAny_Call_Name_kw (ld_glob I gl hm ?_ hd)
  refine PySem.W.callWith_KW (h₀ := X.base) I.ok.mod.kin M.kp hall (thn (ha.run pos pins s σ H _ I h) fun us s1 ⟨vs, H1, I1, r, q⟩ => ?_) hpl he
  refine thn (hkw.run pos pins s1 σ H1 _ I1 q) fun ws s2 ⟨zs, H2, I2, rz, l1, l2, q2⟩ => ⟨I2.kIn, ?_⟩
  rw [hks]
  exact run_gonK M F hg hr hb hx I2 r rz l1 l2 q2
end
end PyI

/-! PyI N: attributes, properties, methods, new instances, calls with defaults. -/
namespace PyI
open PySem PySem.Spec PyProof.Rows L2
open Evl (Ex)

/-- what holds of the whole text -/
structure BaseF (S : Sta) : Prop where
  inj : ∀ f g, S.fok f = true → S.fok g = true → S.fnm f = S.fnm g → f = g
  cf : ∀ c, S.ih c = true → ∀ f ∈ S.cf c, S.fok f = true
  ins : ∀ c, S.ih c = true → InsF S.K (S.ca c)
/-- the attribute x -/
structure FldF (S : Sta) (x : Str) (f : Nat) (cs : List (Nat × Nat)) : Prop where
  nm : S.fnm f = x
  ok : S.fok f = true
  at_ : ∀ c i, cs.lookup c = some i → S.ih c = true → NoAttr S.K (S.ca c) x ∧ ∀ vs : List V, vs.length = (S.names c).length → ((S.names c).zip vs).lookup x = vs[i]?
/-- the property x -/
def PropF (S : Sta) (x : Str) (tbl : List (Nat × Nat)) : Prop := ∀ c g, tbl.lookup c = some g → S.ih c = true → ∃ q, PropOf S.K (S.ca c) x q (S.fa g)
/-- the method x -/
structure MthF (S : Sta) (x : Str) (tbl : List (Nat × Nat)) : Prop where
  no : ∀ f, S.fok f = true → S.fnm f ≠ x
  at_ : ∀ c g, tbl.lookup c = some g → S.ih c = true → Meth S.K (S.ca c) x (S.fa g)
/-- constants as values -/
def toV : D → V
  | .int i => .int i | .bl b => .bl b | .str x => .str x | _ => .non
def isC : D → Bool
  | .int _ | .bl _ | .str _ | .non => true
  | _ => false
/-- the last parameters' defaults -/
def DflF (S : Sta) (g : Nat) (ds : List D) : Prop := (∀ d ∈ ds, isC d = true) ∧ ∃ us, Binds S.K (S.fd g) (S.ps g) us ∧ Vals (ds.map toV) us

section
variable {S : Sta} {C : Orc} {W : WX} {X : Cx}
theorem rep_toV {F : Hp} {d : D} (h : isC d = true) : RepD S F d (toV d) := by
  cases d <;> first | (cases h; done) | exact rep_int (S := S) (F := F) | exact rep_bl (S := S) (F := F) | exact rep_str (S := S) (F := F) | exact rep_non (S := S) (F := F)
theorem repVs_dfl {F : Hp} {μ : Nat → Addr} {k : Nat} : ∀ {ds : List D}, (∀ d ∈ ds, isC d = true) → RepVs S F μ k (ds.map Val.d) (ds.map toV)
  | [], _ => trivial
  | d :: ds, h => ⟨rep_toV (h d List.mem_cons_self), repVs_dfl fun x hx => h x (List.mem_cons_of_mem _ hx)⟩
theorem getF_cases {f : Nat} {cs : List (Nat × Nat)} {v : Val} {M : Mem} {x : D} (h : getF f cs v M = some x) :
    (∃ c fs i, v = .d (.ins c fs) ∧ cs.lookup c = some i ∧ fs[i]? = some x) ∨ ∃ n c fs i, v = .rf n ∧ M[n]? = some (.ins c fs) ∧ cs.lookup c = some i ∧ fs.lookup f = some x := by
  cases v with
  | d y =>
    cases y with
    | ins c fs =>
      have h : ((cs.lookup c).bind fun i => fs[i]?) = some x := h
      cases q : cs.lookup c with
      | none => rw [q] at h; cases h
      | some i =>
        rw [q] at h
        exact .inl ⟨c, fs, i, rfl, q, h⟩
    | _ => cases h
  | rf n =>
    have h : (match M[n]? with
      | some (.ins c fs) => if (cs.lookup c).isSome then fs.lookup f else none
      | _ => none) = some x := h
    cases q : M[n]? with
    | none => rw [q] at h; cases h
    | some c =>
      rw [q] at h
      cases c with
      | ins c fs =>
        simp only at h
        cases q2 : cs.lookup c with
        | none => rw [q2] at h; cases h
        | some i =>
          rw [q2] at h
          exact .inr ⟨n, c, fs, i, rfl, q, q2, by simpa using h⟩
      | _ => cases h
theorem lookup_names (B : BaseF S) {f : Nat} (hf : S.fok f = true) {F : Hp} {x : D} : ∀ {fs : List (Nat × D)} {vs : List V}, (∀ p ∈ fs, S.fok p.1 = true) → RepL S F (fs.map (·.2)) vs → fs.lookup f = some x →
    ∃ v, ((fs.map fun p => S.fnm p.1).zip vs).lookup (S.fnm f) = some v ∧ RepD S F x v
  | [], vs, _, _, e => by simp at e
  | (g, y) :: fs, vs, hk, r, e => by
    obtain ⟨v, ws, rfl, r1, r2⟩ := repL_cons r
    have hg : S.fok g = true := hk (g, y) List.mem_cons_self
    by_cases h : f = g
    · subst h
      simp at e
      subst e
      exact ⟨v, by simp, r1⟩
    · obtain ⟨u, k1, k2⟩ := lookup_names B hf (fun p hp => hk p (List.mem_cons_of_mem _ hp)) r2 (by
        rw [List.lookup_cons] at e
        have : (f == g) = false := by simpa using h
        rw [this] at e
        exact e)
      refine ⟨u, ?_, k2⟩
      rw [List.map_cons, List.zip_cons_cons, List.lookup_cons]
      have : (S.fnm f == S.fnm g) = false := by
        rw [beq_eq_false_iff_ne]
        exact fun z => h (B.inj f g hf hg z)
      rw [this]
      exact k1
theorem lookup_no {ns : List Str} {m : Str} : ∀ {vs : List V}, m ∉ ns → (ns.zip vs).lookup m = none := by
  induction ns with
  | nil => intro vs _; rfl
  | cons n ns ih =>
    intro vs h
    rw [List.mem_cons, not_or] at h
    cases vs with
    | nil => rfl
    | cons v vs =>
      rw [List.zip_cons_cons, List.lookup_cons]
      have : (m == n) = false := by rw [beq_eq_false_iff_ne]; exact h.1
      rw [this]
      exact ih h.2
/-- an instance, there -/
theorem cls_rep (B : BaseF S) {v : Val} {M : Mem} {c : Nat} {μ : Nat → Addr} {F H : Hp} {w : V} (h : clsOf v M = some c) (m : MemR S μ F M H) (r : RepV S F μ M.length v w) :
    S.ih c = true ∧ ∃ a dx gs, w = V.ref a ∧ H a = some (.ins (S.ca c) dx gs) ∧ ∀ x : Str, (∀ f, S.fok f = true → S.fnm f ≠ x) → gs.lookup x = none := by
  cases v with
  | d y =>
    cases y with
    | ins d fs =>
      have h : some d = some c := h
      cases h
      obtain ⟨hc, a, dx, vs, rfl, q1, q2, q3⟩ := repD_ins (S := S) (F := F) r
      refine ⟨hc, a, dx, _, rfl, m.sub _ _ q1, fun x hx => lookup_no ?_⟩
      intro z
      unfold Sta.names at z
      obtain ⟨f, hf, rfl⟩ := List.mem_map.mp z
      exact hx f (B.cf c hc f hf) rfl
    | _ => cases h
  | rf n =>
    obtain ⟨hn, rfl⟩ := (show n < M.length ∧ w = V.ref (μ n) from r)
    have h : (match M[n]? with
      | some (.ins c _) => some c
      | _ => none) = some c := h
    cases q : M[n]? with
    | none => rw [q] at h; cases h
    | some d =>
      rw [q] at h
      cases d with
      | ins d fs =>
        have h : some d = some c := h
        cases h
        obtain ⟨k0, kk, k1, dx, vs, k2, k3, k4⟩ := m.cell n _ q
        refine ⟨k0, _, dx, _, rfl, k2, fun x hx => lookup_no ?_⟩
        intro z
        obtain ⟨p, hp, rfl⟩ := List.mem_map.mp z
        exact hx _ (kk p hp) rfl
      | _ => cases h
theorem rE_fld (B : BaseF S) {x : Str} {f : Nat} {cs : List (Nat × Nat)} (ff : FldF S x f cs) {e : IE} {σ : Sl} {H : Hp} {Q : VK} (q : rE S C W (.fld f cs e) σ H Q) : tFld S.K (rE S C W e) x σ H Q := by
  obtain ⟨μ, F, env, M, r, hM, hE, hd, hk⟩ := q
  unfold denE at hd
  refine rE_bnd hM hE hd hk fun μ1 F1 H1 v M1 w a1 m1 e1 q1 h1 k1 => ?_
  cases g : getF f cs v M1 with
  | none => rw [g] at h1; cases h1
  | some y =>
    rw [g] at h1
    cases h1
    rcases getF_cases g with ⟨c, fs, i, rfl, hl, hi⟩ | ⟨n, c, fs, i, rfl, hn, hl, hi⟩
    · obtain ⟨hc, a, dx, vs, rfl, p1, p2, p3⟩ := repD_ins (S := S) (F := F1) q1
      obtain ⟨na, lk⟩ := ff.at_ c i hl hc
      obtain ⟨u, hu, ru⟩ := repL_get p3 hi
      exact ⟨a, _, dx, _, u, rfl, m1.sub _ _ p1, (B.ins c hc).cl, na, (lk vs p2).trans hu, k1 μ1 F1 H1 u Aft.refl m1 ru⟩
    · obtain ⟨hn2, rfl⟩ := (show n < M1.length ∧ w = V.ref (μ1 n) from q1)
      obtain ⟨k0, kk, kf, dx, vs, kh, kl, kr⟩ := m1.cell n _ hn
      obtain ⟨na, -⟩ := ff.at_ c i hl k0
      obtain ⟨u, hu, ru⟩ := lookup_names B ff.ok kk kr hi
      rw [ff.nm] at hu
      exact ⟨_, _, dx, _, u, rfl, kh, (B.ins c k0).cl, na, hu, k1 μ1 F1 H1 u Aft.refl m1 ru⟩
abbrev okT (S : Sta) (tbl : List (Nat × Nat)) (i : Nat × Nat) : Prop := tbl.lookup i.1 = some i.2 ∧ S.ih i.1 = true
theorem bind_lookup {o : Option Nat} {tbl : List (Nat × Nat)} {g : Nat} (h : (o.bind fun c => tbl.lookup c) = some g) : ∃ c, o = some c ∧ tbl.lookup c = some g := by
  cases o with
  | none => cases h
  | some c => exact ⟨c, rfl, h⟩
theorem rE_prop (B : BaseF S) {tbl : List (Nat × Nat)} {e : IE} {σ : Sl} {H : Hp} {Q : VK} (q : rE S C W (.prop tbl e) σ H Q) : tGop (okT S tbl) (fun i => S.ca i.1) (fun i => spF S C i.2) (rE S C W e) σ H Q := by
  obtain ⟨μ, F, env, M, r, hM, hE, hd, hk⟩ := q
  unfold denE at hd
  refine rE_bnd hM hE hd hk fun μ1 F1 H1 v M1 w a1 m1 e1 q1 h1 k1 => ?_
  cases g : (clsOf v M1).bind (fun c => tbl.lookup c) with
  | none => rw [g] at h1; cases h1
  | some gg =>
    simp only [g] at h1
    obtain ⟨c, hc, hl⟩ := bind_lookup g
    obtain ⟨ih, a, dx, gs, rfl, ha, -⟩ := cls_rep B hc m1 q1
    refine ⟨(c, gg), a, dx, gs, ⟨hl, ih⟩, rfl, ha, μ1, F1, [v], M1, ?_⟩
    cases z : C gg [v] M1 with
    | none => rw [z] at h1; cases h1
    | some rr =>
      rw [z] at h1
      cases rr with
      | ex x M2 => cases h1
      | ok u M2 =>
        cases h1
        exact ⟨_, m1, ⟨q1, trivial⟩, rfl, k1⟩
/-- a promise, the defaults added -/
abbrev spD (S : Sta) (C : Orc) (g : Nat) (ds : List D) : Sp := fun vs H Q E => spF S C g (vs ++ ds.map toV) H Q E
theorem rE_mth (B : BaseF S) {x : Str} {tbl : List (Nat × Nat)} (mf : MthF S x tbl) {ds : List D} (hds : ∀ d ∈ ds, isC d = true) {o : IE} {es : IEs} {σ : Sl} {H : Hp} {Q : VK} (q : rE S C W (.mth tbl (.dfl ds) o es) σ H Q) :
    tGom (okT S tbl) (fun i => S.ca i.1) x (fun i => spD S C i.2 ds) (WE W) (rE S C W o) (rA S C W es) σ H Q := by
  obtain ⟨μ, F, env, M, r, hM, hE, hd, hk⟩ := q
  unfold denE at hd
  refine rE_bnd hM hE hd hk fun μ1 F1 H1 v M1 w a1 m1 e1 q1 h1 k1 => ?_
  cases g : (clsOf v M1).bind (fun c => tbl.lookup c) with
  | none => rw [g] at h1; cases h1
  | some gg =>
    simp only [g] at h1
    obtain ⟨c, hc, hl⟩ := bind_lookup g
    obtain ⟨ih, a, dx, gs, rfl, ha, hn⟩ := cls_rep B hc m1 q1
    refine ⟨(c, gg), a, dx, gs, ⟨hl, ih⟩, rfl, ha, hn x mf.no, rA_bnd m1 e1 h1 k1 fun μ2 F2 H2 vs M2 ws a2 m2 e2 q2 h2 k2 => ?_⟩
    have h2 : C gg (v :: (vs ++ ds.map Val.d)) M2 = some r := h2
    refine ⟨μ2, F2, v :: (vs ++ ds.map Val.d), M2, r, m2, ⟨q1.aft a2, q2.append (repVs_dfl hds)⟩, h2, ?_⟩
    cases r with
    | ok u M3 => exact k2
    | ex x M3 => exact k2
theorem rE_callp {f : Nat} {ds : List D} (hds : ∀ d ∈ ds, isC d = true) {es : IEs} {σ : Sl} {H : Hp} {Q : VK} (q : rE S C W (.callp f (.dfl ds) es) σ H Q) : rA S C W es σ H fun vs H1 => spD S C f ds vs H1 Q (WE W σ) := by
  obtain ⟨μ, F, env, M, res, hM, hE, hd, hk⟩ := q
  unfold denE at hd
  refine rA_bnd hM hE hd hk fun μ1 F1 H1 vs M1 ws a1 m1 e1 q1 h1 k1 => ?_
  have h1 : C f (vs ++ ds.map Val.d) M1 = some res := h1
  refine ⟨μ1, F1, vs ++ ds.map Val.d, M1, res, m1, q1.append (repVs_dfl hds), h1, ?_⟩
  cases res with
  | ok v M2 => exact k1
  | ex x M2 => exact k1
/-- two new objects: the instance, its dict -/
theorem MemR.newIns {μ : Nat → Addr} {F H : Hp} {M : Mem} {c : Nat} {a dx : Addr} (h : MemR S μ F M H) (hc : S.ih c = true) (ha : H a = none) (hdx : H dx = none) (ne : dx ≠ a) :
    MemR S (fun n => if n = M.length then a else μ n) F (M ++ [.ins c []]) (upd (upd H dx (.own a)) a (.ins (S.ca c) dx [])) ∧
      Aft μ F H M.length (fun n => if n = M.length then a else μ n) F (upd (upd H dx (.own a)) a (.ins (S.ca c) dx [])) (M ++ [Cell.ins c []]).length := by
  have g : Grow F F H (upd H dx (.own a)) := ⟨Evl.Ex.refl F, Evl.Ex.new hdx, fun b o e => .inl e, h.sub.trans (Evl.Ex.new hdx)⟩
  have h2 := h.grow g
  have ha2 : upd H dx (.own a) a = none := by rw [upd_ne (Ne.symm ne)]; exact ha
  have r : CellR S F (upd (upd H dx (.own a)) a (.ins (S.ca c) dx [])) a (.ins c []) :=
    ⟨hc, (by intro p hp; cases hp), Evl.fresh_back h.sub ha, dx, [], by rw [upd_same]; rfl, rfl, repL_emp⟩
  obtain ⟨m, f⟩ := h2.cellNew (o := .ins (S.ca c) dx []) ha2 r
  exact ⟨m, (g.aft (μ := μ) (k := M.length)).trans f⟩
theorem repVs_at {F : Hp} {μ : Nat → Addr} {k : Nat} : ∀ {as : List Val} {vs : List V} {i : Nat} {a : Val}, RepVs S F μ k as vs → as[i]? = some a → ∃ v, vs[i]? = some v ∧ RepV S F μ k a v
  | [], vs, i, a, h, e => by simp at e
  | b :: as, vs, i, a, h, e => by
    obtain ⟨v, ws, rfl, h1, h2⟩ := h.cons
    cases i with
    | zero =>
      have e : b = a := by simpa using e
      subst e
      exact ⟨v, rfl, h1⟩
    | succ i => exact repVs_at (i := i) h2 (by simpa using e)
/-- an instance is made: behind the arguments -/
theorem new_core {c f : Nat} (hc : S.ih c = true) {μ1 : Nat → Addr} {F1 H1 : Hp} {M1 : Mem} {wv : List Val} {ws : List V} {res : R Val} {σ : Sl} {Q : VK} (m1 : MemR S μ1 F1 M1 H1) (q1 : RepVs S F1 μ1 M1.length wv ws)
    (h1 : endNew c (S.cf c) M1.length (C f (.rf M1.length :: wv) (M1 ++ [.ins c []])) = some res) (k1 : KE S W μ1 F1 H1 M1.length σ Q res) (a dx : Addr) (ha : H1 a = none) (hdx : H1 dx = none) (ne : dx ≠ a) :
    spF S C f (V.ref a :: ws) (upd (upd H1 dx (.own a)) a (.ins (S.ca c) dx [])) (fun v H2 => v = .non ∧ Q (.ref a) H2) (WE W σ) := by
  obtain ⟨m2, f2⟩ := m1.newIns hc ha hdx ne
  cases z : C f (.rf M1.length :: wv) (M1 ++ [.ins c []]) with
  | none => rw [z] at h1; cases h1
  | some rr =>
    rw [z] at h1
    have ll : (M1 ++ [Cell.ins c []]).length = M1.length + 1 := by simp
    refine ⟨_, F1, .rf M1.length :: wv, M1 ++ [.ins c []], rr, m2, ⟨⟨by rw [ll]; omega, ?_⟩, q1.aft f2⟩, z, ?_⟩
    · show V.ref a = V.ref (if M1.length = M1.length then a else μ1 M1.length)
      rw [if_pos rfl]
    · cases rr with
      | ex x M2 =>
        cases h1
        intro μ' F' H' cls d a3 m3 rx
        have cut : (M2.take M1.length).length = M1.length := by
          have := a3.le
          rw [List.length_take]; omega
        refine k1 μ' F' H' cls d ?_ (m3.take _) rx
        rw [cut]
        exact (f2.trans a3).cut (Nat.le_refl _) (by have := a3.le; omega)
      | ok u M2 =>
        intro μ' F' H' w a3 m3 ru
        cases u with
        | rf n => cases h1
        | d y =>
          cases y with
          | non =>
            refine ⟨repD_non (S := S) (F := F') ru, ?_⟩
            have h1 : (match M2[M1.length]? with
              | some (.ins d fs) => if d = c ∧ fs.map (·.1) = S.cf c then some (R.ok (Val.d (.ins c (fs.map (·.2)))) (M2.take M1.length)) else none
              | _ => none) = some res := h1
            have hl : M1.length < M2.length := by have := a3.le; omega
            cases zc : M2[M1.length]? with
            | none => rw [zc] at h1; cases h1
            | some cc =>
              rw [zc] at h1
              cases cc with
              | ins d fs =>
                simp only at h1
                split at h1
                · rename_i hq
                  obtain ⟨rfl, hq⟩ := hq
                  cases h1
                  have e2 : M2.take (M1.length + 1) = M2.take M1.length ++ [.ins d fs] := by
                    rw [List.take_add_one, zc]
                    rfl
                  have m4 := m3.take (M1.length + 1)
                  rw [e2] at m4
                  have cut : (M2.take M1.length).length = M1.length := by rw [List.length_take]; omega
                  obtain ⟨F5, x5, m5, a5, r5⟩ := m4.freezeIns hq
                  rw [cut] at a5 r5
                  have hmu : μ' M1.length = a := by
                    have := a3.mu M1.length (by rw [ll]; omega)
                    rw [this]
                    exact if_pos rfl
                  rw [hmu] at r5
                  refine k1 μ' F5 H' _ ?_ m5 r5
                  rw [cut]
                  exact ((f2.trans (a3.cut (j := M1.length + 1) (by rw [ll]; omega) (by omega))).trans a5).cut (Nat.le_refl _) (by omega)
                · cases h1
              | _ => cases h1
          | _ => cases h1
theorem rE_new {c f : Nat} {fl : List Nat} (hc : S.ih c = true) (hfl : fl = S.cf c) {ds : List D} (hds : ∀ d ∈ ds, isC d = true) {es : IEs} {σ : Sl} {H : Hp} {Q : VK} (q : rE S C W (.new c fl f (.dfl ds) es) σ H Q) :
    tGon (S.ca c) (spD S C f ds) (WE W) (rA S C W es) σ H Q := by
  subst hfl
  obtain ⟨μ, F, env, M, res, hM, hE, hd, hk⟩ := q
  unfold denE at hd
  refine rA_bnd hM hE hd hk fun μ1 F1 H1 vs M1 ws a1 m1 e1 q1 h1 k1 a dx ha hdx ne => ?_
  have h1 : endNew c (S.cf c) M1.length (C f (.rf M1.length :: (vs ++ ds.map Val.d)) (M1 ++ [.ins c []])) = some res := h1
  exact new_core hc m1 (q1.append (repVs_dfl hds)) h1 k1 a dx ha hdx ne
/-! ### arguments by name -/
def appEs : IEs → IEs → IEs
  | .nil, b => b
  | .cons e a, b => .cons e (appEs a b)
theorem den_app (env : Env) : ∀ (a b : IEs) (M : Mem), denEs C (appEs a b) env M = bnd (denEs C a env M) fun vs M1 => bnd (denEs C b env M1) fun zs M2 => some (.ok (vs ++ zs) M2)
  | .nil, b, M => by
    show denEs C b env M = _
    rw [show denEs C .nil env M = some (.ok [] M) by rw [denEs], bnd_ok]
    cases denEs C b env M with
    | none => rfl
    | some r => cases r <;> rfl
  | .cons e a, b, M => by
    show denEs C (.cons e (appEs a b)) env M = _
    have ex : ∀ r, denEs C (.cons e r) env M = bnd (denE C e env M) fun v M1 => bnd (denEs C r env M1) fun vs M2 => some (.ok (v :: vs) M2) := fun r => by rw [denEs]
    rw [ex, ex]
    cases denE C e env M with
    | none => rfl
    | some r =>
      cases r with
      | ex x M1 => rfl
      | ok v M1 =>
        simp only [bnd_ok]
        rw [den_app env a b M1]
        cases denEs C a env M1 with
        | none => rfl
        | some r2 =>
          cases r2 with
          | ex x M2 => rfl
          | ok vs M2 =>
            simp only [bnd_ok]
            cases denEs C b env M2 with
            | none => rfl
            | some r3 => cases r3 <;> rfl
/-- the values in the parameters' order -/
def pickV (l : List V) (q : List (Nat ⊕ D)) : List V := q.map fun z => match z with
  | .inl i => (l[i]?).getD .non
  | .inr d => toV d
theorem byV_rep {F : Hp} {μ : Nat → Addr} {k : Nat} {vs : List Val} {wv : List V} (r : RepVs S F μ k vs wv) : ∀ {q : List (Nat ⊕ D)} {ws : List Val}, (∀ d, Sum.inr d ∈ q → isC d = true) → byV vs q = some ws → RepVs S F μ k ws (pickV wv q)
  | [], ws, _, h => by
    cases h
    exact trivial
  | .inl i :: q, ws, hd, h => by
    unfold byV at h
    split at h
    · rename_i v ws2 h1 h2
      cases h
      obtain ⟨w, e1, e2⟩ := repVs_at r h1
      refine ⟨?_, byV_rep r (fun d hd' => hd d (List.mem_cons_of_mem _ hd')) h2⟩
      show RepV S F μ k v ((wv[i]?).getD .non)
      rw [e1]
      exact e2
    · cases h
  | .inr d :: q, ws, hd, h => by
    unfold byV at h
    cases e : byV vs q with
    | none => rw [e] at h; cases h
    | some ws2 =>
      rw [e] at h
      cases h
      exact ⟨rep_toV (hd d List.mem_cons_self), byV_rep r (fun d hd' => hd d (List.mem_cons_of_mem _ hd')) e⟩
/-- how the values stand for the parameters, the instance ahead -/
def gVof (q : List (Nat ⊕ D)) (vs zs : List V) : List V := match vs with
  | [] => []
  | a :: r => a :: pickV (r ++ zs) q
theorem rE_newK {c f : Nat} {fl : List Nat} (hc : S.ih c = true) (hfl : fl = S.cf c) {q : List (Nat ⊕ D)} (hq : ∀ d, Sum.inr d ∈ q → isC d = true) {es ks : IEs} {n m : Nat} (hn : ∀ {env : Env} {M M1 : Mem} {vs : List Val}, denEs C es env M = some (.ok vs M1) → vs.length = n)
    (hm : ∀ {env : Env} {M M1 : Mem} {vs : List Val}, denEs C ks env M = some (.ok vs M1) → vs.length = m) {σ : Sl} {H : Hp} {Q : VK} (h : rE S C W (.new c fl f (.by q) (appEs es ks)) σ H Q) :
    tGonK (S.ca c) n m (spF S C f) (gVof q) (WE W) (rA S C W es) (rA S C W ks) σ H Q := by
  subst hfl
  obtain ⟨μ, F, env, M, res, hM, hE, hd, hk⟩ := h
  unfold denE at hd
  rw [den_app] at hd
  have hd : bnd (denEs C es env M) (fun vs M1 => bnd (denEs C ks env M1) fun zs M2 => match Pl.run (.by q) (vs ++ zs) with
      | some ws => endNew c (S.cf c) M2.length (C f (.rf M2.length :: ws) (M2 ++ [.ins c []]))
      | none => none) = some res := by
    rw [← hd]
    cases denEs C es env M with
    | none => rfl
    | some r =>
      cases r with
      | ex x M1 => rfl
      | ok vs M1 =>
        simp only [bnd_ok]
        cases denEs C ks env M1 with
        | none => rfl
        | some r2 => cases r2 <;> rfl
  cases e1 : denEs C es env M with
  | none => rw [e1] at hd; cases hd
  | some r1 =>
    rw [e1] at hd
    cases r1 with
    | ex x M1 =>
      cases hd
      exact ⟨μ, F, env, M, .ex x M1, hM, hE, e1, hk⟩
    | ok vs0 M10 =>
      have len1 := hn e1
      rw [bnd_ok] at hd
      refine rA_bnd (k := fun vs M1 => bnd (denEs C ks env M1) fun zs M2 => match Pl.run (.by q) (vs ++ zs) with
        | some ws => if vs.length = n then endNew c (S.cf c) M2.length (C f (.rf M2.length :: ws) (M2 ++ [.ins c []])) else none
        | none => none) hM hE (by rw [e1, bnd_ok]; simp only [len1, if_true]; exact hd) hk fun μ1 F1 H1 vs M1 ws a1 m1 ee1 q1 h1 k1 => ?_
      cases e2 : denEs C ks env M1 with
      | none => rw [e2] at h1; cases h1
      | some r2 =>
        rw [e2] at h1
        cases r2 with
        | ex x M2 =>
          cases h1
          exact ⟨μ1, F1, env, M1, .ex x M2, m1, ee1, e2, k1⟩
        | ok zs0 M20 =>
          have len2 := hm e2
          rw [bnd_ok] at h1
          refine rA_bnd (k := fun zs M2 => match Pl.run (.by q) (vs ++ zs) with
            | some ws => if vs.length = n ∧ zs.length = m then endNew c (S.cf c) M2.length (C f (.rf M2.length :: ws) (M2 ++ [.ins c []])) else none
            | none => none) m1 ee1 (by
              rw [e2, bnd_ok]
              cases e3 : Pl.run (.by q) (vs ++ zs0) with
              | none => rw [e3] at h1; cases h1
              | some ws3 =>
                rw [e3] at h1
                simp only at h1 ⊢
                split at h1
                · rename_i hh
                  rw [if_pos ⟨hh, len2⟩]
                  exact h1
                · cases h1) k1 fun μ2 F2 H2 zs M2 wz a2 m2 ee2 q2 h2 k2 => ?_
          cases e3 : Pl.run (.by q) (vs ++ zs) with
          | none => rw [e3] at h2; cases h2
          | some ws3 =>
            rw [e3] at h2
            simp only at h2
            split at h2
            · rename_i hh
              refine ⟨by rw [← (q1.aft a2).len]; exact hh.1, by rw [← q2.len]; exact hh.2, fun a dx ha hdx ne => ?_⟩
              exact new_core hc m2 (byV_rep ((q1.aft a2).append q2) hq e3) h2 k2 a dx ha hdx ne
            · cases h2
/-- a class in a variable, called -/
theorem rE_newv {i c f : Nat} {fl : List Nat} (hc : S.ih c = true) (hfl : fl = S.cf c) {ds : List D} (hds : ∀ d ∈ ds, isC d = true) {es : IEs} {σ : Sl} {H : Hp} {Q : VK} (q : rE S C W (.newv i c fl f (.dfl ds) es) σ H Q) :
    σ[i]? = some (some (V.ref (S.ca c))) ∧ tGon (S.ca c) (spD S C f ds) (WE W) (rA S C W es) σ H Q := by
  obtain ⟨μ, F, env, M, res, hM, hE, hd, hk⟩ := q
  unfold denE at hd
  split at hd
  · rename_i d he
    split at hd
    · rename_i e
      subst e
      obtain ⟨w, hs, rw_⟩ := hE.at_ i _ he
      have rw_ : RepD S F (.cls d) w := rw_
      obtain ⟨_, rfl⟩ := (show S.ih d = true ∧ w = V.ref (S.ca d) by simpa only [RepD] using rw_)
      refine ⟨hs, rE_new hc hfl hds ⟨μ, F, env, M, res, hM, hE, ?_, hk⟩⟩
      unfold denE
      exact hd
    · cases hd
  · cases hd
/-- the first argument is a constant -/
theorem rA_cst {d : D} {v : V} (hv : ∀ F, RepD S F d v) {es : IEs} {σ : Sl} {H : Hp} {Q : List V → Hp → Prop} (q : rA S C W (.cons (.cst d) es) σ H Q) : rA S C W es σ H fun vs H1 => Q (v :: vs) H1 := by
  obtain ⟨μ, F, env, M, res, hM, hE, hd, hk⟩ := q
  unfold denEs at hd
  have e : denE C (.cst d) env M = some (.ok (.d d) M) := by unfold denE; rfl
  rw [e, bnd_ok] at hd
  cases h : denEs C es env M with
  | none => rw [h] at hd; cases hd
  | some r =>
    rw [h] at hd
    refine ⟨μ, F, env, M, r, hM, hE, h, ?_⟩
    cases r with
    | ex x M1 => cases hd; exact hk
    | ok vs M1 =>
      cases hd
      exact fun μ' F' H' ws a m r => hk μ' F' H' (v :: ws) a m ⟨hv F', r⟩
end
end PyI

/-! PyI E: == and != of instances, by their class's __eq__. -/
namespace PyI
open PySem PySem.Spec PyProof.Rows L2
open Evl (Ex)
open PySem.W (Looks InstAt findIn isFn subIn mroIn typeIn looks_findIn looks_subIn looks_mroIn)

section
variable {P : Program} {w : World} {A : Around} {Er : Value → Shared → Prop} {s : Shared} {K : PySem.W.Frag} {x C f : Addr} {ox : Obj} {od : Option Obj}
/-- the left side answers -/
theorem rich_left {op : CmpOp} {b tb : Value} {Q : Value → Shared → Prop} (hu : A.units < cLine) (X : K.In s.heap) (I : InstAt s.heap x ox C od) (hb : Looks (model P w) s.heap (typeOf b) tb) (hn : tb = .ref C ∨ subIn K tb (.ref C) = some false)
    (one : wpAny (model P w) A (tryCompare (.ref x) (cmpInfo op).2.1 b) (fun r s' => ∃ v, r = some v ∧ Q v s') Er s) : wpAny (model P w) A (richCompare op (.ref x) b) Q Er s := by
  unfold richCompare
  simp only [oneThing_ref]
  refine wpAny_holding (wpAny_bind (wpAny_cRoomFor hu (wpAny_bind (I.type.here (wpAny_bind (hb.here ?_))))))
  rcases hn with rfl | hn
  · rw [if_neg (by simp)]
    refine wpAny_bind (wpAny_pure ?_)
    rw [if_neg (by simp)]
    refine wpAny_bind (wpAny_mono one (fun p t hp => ?_) fun _ _ y => y)
    obtain ⟨v, rfl, hv⟩ := hp
    exact wpAny_pure hv
  · by_cases q : (Value.ref C != tb) = true
    · rw [if_pos q]
      refine wpAny_bind ((looks_subIn X hn).here ?_)
      rw [if_neg (by simp)]
      refine wpAny_bind (wpAny_mono one (fun p t hp => ?_) fun _ _ y => y)
      obtain ⟨v, rfl, hv⟩ := hp
      exact wpAny_pure hv
    · rw [if_neg q]
      refine wpAny_bind (wpAny_pure ?_)
      rw [if_neg (by simp)]
      refine wpAny_bind (wpAny_mono one (fun p t hp => ?_) fun _ _ y => y)
      obtain ⟨v, rfl, hv⟩ := hp
      exact wpAny_pure hv
/-- the right side, of a class below, answers -/
theorem rich_right {op : CmpOp} {y D : Addr} {oy : Obj} {oe : Option Obj} {Q : Value → Shared → Prop} (hu : A.units < cLine) (X : K.In s.heap) (I : InstAt s.heap x ox C od) (J : InstAt s.heap y oy D oe) (ne : D ≠ C) (hs : subIn K (.ref D) (.ref C) = some true)
    (one : wpAny (model P w) A (tryCompare (.ref y) (cmpInfo op).2.2 (.ref x)) (fun r s' => ∃ v, r = some v ∧ Q v s') Er s) : wpAny (model P w) A (richCompare op (.ref x) (.ref y)) Q Er s := by
  unfold richCompare
  simp only [oneThing_ref]
  refine wpAny_holding (wpAny_bind (wpAny_cRoomFor hu (wpAny_bind (I.type.here (wpAny_bind (J.type.here ?_))))))
  rw [if_pos (by simpa using Ne.symm ne)]
  refine wpAny_bind ((looks_subIn X hs).here ?_)
  simp only [if_true]
  refine wpAny_bind (wpAny_mono one (fun r s' z => ?_) fun _ _ e => e)
  obtain ⟨v, rfl, q⟩ := z
  first | exact wpAny_bind (wpAny_pure q) | exact wpAny_pure q | exact wpAny_bind (wpAny_rule (wpAny_pure q))
/-- __eq__, a def -/
theorem try_eq {b : Value} {Q : Option Value → Shared → Prop} (X : K.In s.heap) (I : InstAt s.heap x ox C od) (he : findIn K (.ref C) "__eq__" = some (some (.ref f))) (hf : isFn K (.ref f) = true)
    (h : wpAny (model P w) A (call (.ref f) [.ref x, b]) (fun v s' => ∃ c : Bool, v = .bool c ∧ Q (some (.bool c)) s') Er s) : wpAny (model P w) A (tryCompare (.ref x) "__eq__" b) Q Er s := by
  unfold tryCompare
  refine wpAny_bind (PySem.W.ifBound_K X I he hf (wpAny_mono h (fun v s' z => ?_) fun _ _ e => e))
  obtain ⟨c, rfl, q⟩ := z
  exact wpAny_pure q
open Builtin in
theorem ne_body {b : Value} {Q : Fin → Shared → Prop} (hu : A.units < cLine) (X : K.In s.heap) (I : InstAt s.heap x ox C od) (he : findIn K (.ref C) "__eq__" = some (some (.ref f))) (hf : isFn K (.ref f) = true)
    (h : wpAny (model P w) A (call (.ref f) [.ref x, b]) (fun v s' => ∃ c : Bool, v = .bool c ∧ Q (.done (.ret (.bool (!c)))) s') Er s) : wpAny (model P w) A (Builtin.«object.__ne__» ⟨[.ref x, b], []⟩) Q Er s := by
  unfold Builtin.«object.__ne__»
  repeat (first
    | with_reducible refine wpAny_cRoomFor hu ?_
    | (refine wpAny_bind (m := callSpecialIfBound? (.ref x) (Str.ofString "__eq__") [b]) (PySem.W.ifBound_K X I he hf (wpAny_mono h (fun v s' z => by
        obtain ⟨c, rfl, q⟩ := z
        repeat (first | exact q | exact wpAny_pure q | exact wpAny_truthy_bool q | (refine wpAny_bind (m := truthy (.bool _)) (wpAny_truthy_bool ?_)) | wp_step)) fun _ _ e => e)))
    | wp_step)
open Builtin in
/-- __ne__ is object's: it asks __eq__ -/
theorem try_ne {b : Value} {Q : Option Value → Shared → Prop} (hu : A.in1.units < cLine) (X : K.In s.heap) (I : InstAt s.heap x ox C od) (hn : findIn K (.ref C) "__ne__" = some (some (.builtin "object.__ne__"))) (hm : mroIn K C (.type "object") = some true)
    (he : findIn K (.ref C) "__eq__" = some (some (.ref f))) (hf : isFn K (.ref f) = true) (h : wpAny (model P w) A.in1 (call (.ref f) [.ref x, b]) (fun v s' => ∃ c : Bool, v = .bool c ∧ Q (some (.bool (!c))) s') Er s) :
    wpAny (model P w) A (tryCompare (.ref x) "__ne__" b) Q Er s := by
  unfold tryCompare
  refine wpAny_bind (NtL.csib (I.type.andThen (looks_findIn X hn)) (PySem.F.slot_object_ne.bind _) ?_)
  refine wpAny_call (codeAny_call_builtin PySem.F.slot_object_ne.plain PySem.F.cmpEntry_ne (PySem.W.check_slot PySem.F.cmpKind_ne PySem.F.cmpSplit_ne (I.type.andThen (looks_mroIn X hm)) (PySem.F.cmpArgs_ne _ _) ?_))
  refine ne_body hu X I he hf (wpAny_mono h (fun v s' z => ?_) fun _ _ e => e)
  obtain ⟨c, rfl, q⟩ := z
  first | exact ⟨c, rfl, wpAny_pure q⟩ | exact ⟨c, rfl, wpAny_pure (wpAny_pure q)⟩ | exact ⟨c, rfl, q⟩
end

/-! ### the rule -/
/-- which classes have an __eq__ of their own; up: (c, d), d a class below c -/
structure EqF (S : Sta) (tbl up : List (Nat × Nat)) : Prop where
  eq : ∀ c g, tbl.lookup c = some g → S.ih c = true → findIn S.K (.ref (S.ca c)) "__eq__" = some (some (.ref (S.fa g))) ∧ isFn S.K (.ref (S.fa g)) = true ∧ findIn S.K (.ref (S.ca c)) "__ne__" = some (some (.builtin "object.__ne__")) ∧
    subIn S.K (.type "tuple") (.ref (S.ca c)) = some false
  no : ∀ c d, S.ih c = true → S.ih d = true → (c, d) ∉ up → S.ca d = S.ca c ∨ subIn S.K (.ref (S.ca d)) (.ref (S.ca c)) = some false
  yes : ∀ c d, S.ih c = true → S.ih d = true → (c, d) ∈ up → S.ca d ≠ S.ca c ∧ subIn S.K (.ref (S.ca d)) (.ref (S.ca c)) = some true
section
variable {S : Sta} {C : Orc} {W : WX} {X : Cx} {CT : CXT} {k : Nat}
/-- what the call of __eq__ is asked for -/
def EqK (neg : Bool) (Q : VK) : VK := fun v H' => ∃ c : Bool, v = .bl c ∧ Q (.bl (if neg then !c else c)) H'
/-- an instance there -/
def InsAt (S : Sta) (H : Hp) (x : V) (c : Nat) : Prop := S.ih c = true ∧ ∃ a dx gs, x = .ref a ∧ H a = some (.ins (S.ca c) dx gs)
def rOwnEq (S : Sta) (C : Orc) (tbl up : List (Nat × Nat)) (neg : Bool) : R2 := fun x y H Q => ∃ c g,
  (tbl.lookup c = some g ∧ InsAt S H x c ∧ ((∃ d, InsAt S H y d ∧ (c, d) ∉ up) ∨ ∃ a ys, y = .ref a ∧ SqT S.K H a ys) ∧ spF S C g [x, y] H (EqK neg Q) fun _ _ _ => False) ∨
  (∃ d, tbl.lookup d = some g ∧ InsAt S H x c ∧ InsAt S H y d ∧ (c, d) ∈ up ∧ spF S C g [y, x] H (EqK neg Q) fun _ _ _ => False)
theorem insAt_look (B : BaseF S) {pins : List (Addr × Obj)} {σ : Sl} {H : Hp} {s : Shared} (I : Inv X pins σ H s) {x : V} {c : Nat} (h : InsAt S H x c) : S.ih c = true ∧ ∃ a ox od, x = .ref a ∧ InstAt s.heap a ox (S.ca c) od := by
  obtain ⟨hc, a, dx, gs, rfl, ha⟩ := h
  obtain ⟨mA, O, _⟩ := ins_get I.hok ha
  obtain ⟨o, J, _⟩ := O.look
  exact ⟨hc, a, _, _, rfl, J⟩
theorem op_ownEq (hK : X.K = S.K) (B : BaseF S) {tbl up : List (Nat × Nat)} (ef : EqF S tbl up) (F : ∀ g, GoR X.prog X.w X.K X.mg X.base CT k (S.fa g) (spF S C g)) (hg : X.A.guards = some []) (hr : Room (k + 1) X.A)
    (hx : ∀ (st : List PySem.Env) (H : Hp) (s : Shared) (e : Value) (s' : Shared), CT st H s (fun _ _ _ => False) e s' → False) (neg : Bool) :
    OpR X (compareOp (if neg then .NotEq else .Eq)) (rOwnEq S C tbl up neg) := by
  -- the call, here or one deeper
  have run : ∀ (A : Around), A = X.A ∨ A = X.A.in1 → ∀ {pins : List (Addr × Obj)} {σ : Sl} {H : Hp} {s : Shared} {Q : VK} {g : Nat} {a : Addr} {y : V} {u : Value}, Inv X pins σ H s → RelV y u → spF S C g [.ref a, y] H (EqK neg Q) (fun _ _ _ => False) →
      wpAny (model X.prog X.w) A (call (.ref (S.fa g)) [.ref a, u]) (fun v s' => ∃ c : Bool, v = .bool c ∧ EP X pins σ Q (.bool (if neg then !c else c)) s') X.xe s := by
    intro A hA pins σ H s Q g a y u I ry q
    have ga : A.guards = some [] := by rcases hA with rfl | rfl <;> exact hg
    have ra : Room k A := by
      rcases hA with rfl | rfl
      · exact hr.mono (Nat.le_succ k)
      · exact hr.in1
    have ea : Env0 X.prog X.w X.K X.mg X.base A X.stack s H := by
      rcases hA with rfl | rfl
      · exact I.env0
      · exact I.env0.in1
    refine wpAny_call (codeAny_mono (F g A X.stack s H [.ref a, u] [.ref a, y] (EqK neg Q) _ ga ra ea (.cons (show L2.RelV (V.ref a) _ from rfl) (.cons ry .nil)) q) fun r s' z => ?_)
    cases r with
    | error er => exact (hx _ _ _ _ _ z).elim
    | ok fl =>
      cases fl with
      | ret v =>
        obtain ⟨z', H', I', rz, c, rfl, qz⟩ := I.after z
        cases (show v = Value.bool c from rz)
        exact ⟨c, rfl, .bl _, H', I', rfl, qz⟩
      | _ => exact False.elim z
  intro pins s σ H x y v u Q I rx ry q
  have hu : X.A.units < cLine := by have := hr.un; omega
  have hu1 : X.A.in1.units < cLine := by have := hr.in1.un; omega
  have kin : S.K.In s.heap := hK ▸ I.kIn
  -- the way of one try
  have one : ∀ {c g : Nat} {a : Addr} {ox : Obj} {od : Option Obj} {z : V} {t : Value}, tbl.lookup c = some g → S.ih c = true → InstAt s.heap a ox (S.ca c) od → RelV z t → spF S C g [.ref a, z] H (EqK neg Q) (fun _ _ _ => False) →
      wpAny (model X.prog X.w) X.A (tryCompare (.ref a) (cmpInfo (if neg then .NotEq else .Eq)).2.1 t) (fun r s' => ∃ v, r = some v ∧ EP X pins σ Q v s') X.xe s := by
    intro c g a ox od z t hl hc J rz q
    obtain ⟨e1, e2, e3, _⟩ := ef.eq c g hl hc
    cases neg with
    | false => exact try_eq kin J e1 e2 (wpAny_mono (run X.A (.inl rfl) I rz q) (fun v s' ⟨b, e, q⟩ => ⟨b, e, _, rfl, q⟩) fun _ _ e => e)
    | true => exact try_ne hu1 kin J e3 (B.ins c hc).hm e1 e2 (wpAny_mono (run X.A.in1 (.inr rfl) I rz q) (fun v s' ⟨b, e, q⟩ => ⟨b, e, _, rfl, q⟩) fun _ _ e => e)
  have op : ∀ p q : Value, compareOp (if neg then .NotEq else .Eq) p q = richCompare (if neg then .NotEq else .Eq) p q := by
    intro p q
    cases neg <;> rfl
  rw [op]
  obtain ⟨c, g, ⟨hl, hx1, hy, q⟩ | ⟨d, hl, hx1, hy, hup, q⟩⟩ := q
  · obtain ⟨hc, a, ox, od, rfl, J⟩ := insAt_look B I hx1
    cases (show v = Value.ref a from rx)
    have o1 := one hl hc J ry q
    rcases hy with ⟨d, hyd, hup⟩ | ⟨b, ys, rfl, hb⟩
    · obtain ⟨hd, b, oy, oe, rfl, J2⟩ := insAt_look B I hyd
      cases (show u = Value.ref b from ry)
      refine rich_left hu kin J J2.type ?_ o1
      rcases ef.no c d hc hd hup with e | e
      · exact .inl (by rw [e])
      · exact .inr e
    · cases (show u = Value.ref b from ry)
      obtain ⟨its, _, p, _⟩ := I.tuple (hK ▸ hb)
      obtain ⟨o, po, pc⟩ : ∃ o, s.heap.get? b = some o ∧ o.cls = .type "tuple" := by
        obtain ⟨o, e1, e2, _⟩ := p
        exact ⟨o, e1, e2⟩
      have lk : Looks (model X.prog X.w) s.heap (typeOf (.ref b)) (.type "tuple") := fun A Q E s k q => wpAny_typeOf_ref (k _ _ po) (by rw [pc]; exact q)
      exact rich_left hu kin J lk (.inr (ef.eq c g hl hc).2.2.2) o1
  · obtain ⟨hc, a, ox, od, rfl, J⟩ := insAt_look B I hx1
    cases (show v = Value.ref a from rx)
    obtain ⟨hd, b, oy, oe, rfl, J2⟩ := insAt_look B I hy
    cases (show u = Value.ref b from ry)
    obtain ⟨e1, e2⟩ := ef.yes c d hc hd hup
    have o1 := one hl hd J2 (t := .ref a) (z := .ref a) rfl q
    refine rich_right hu kin J J2 e1 e2 ?_
    cases neg <;> exact o1
/-- the reading: both sides, then who answers -/
theorem rE_eqo (B : BaseF S) {tbl up : List (Nat × Nat)} {neg : Bool} {a b : IE} {σ : Sl} {H : Hp} {Q : VK} (q : rE S C W (.eqo neg tbl up a b) σ H Q) :
    tOp (fun x y H Q => rOwnEq S C tbl up neg x y H Q ∨ ∃ F, Ex F H ∧ ∃ d e, RepA S F H d x ∧ RepA S F H e y ∧ ∃ z, opD (if neg then .ne else .eq) [d, e] = some z ∧ Gives S F H z Q) (rE S C W a) (rE S C W b) σ H Q := by
  obtain ⟨μ, F, env, M, r, hM, hE, hd, hk⟩ := q
  unfold denE at hd
  refine rE_bnd hM hE hd hk fun μ1 F1 H1 v M1 x a1 m1 e1 q1 h1 k1 => ?_
  refine rE_bnd m1 e1 h1 k1 fun μ2 F2 H2 w M2 y a2 m2 e2 q2 h2 k2 => ?_
  have q1 := q1.aft a2
  have ins : ∀ {v : Val} {x : V} {c : Nat}, clsOf v M2 = some c → RepV S F2 μ2 M2.length v x → InsAt S H2 x c := fun h r => by
    obtain ⟨hc, a, dx, gs, rfl, ha, -⟩ := cls_rep B h m2 r
    exact ⟨hc, a, dx, gs, rfl, ha⟩
  have fin : ∀ {g : Nat} {as : List Val} {ws : List V}, RepVs S F2 μ2 M2.length as ws → (bnd (quiet (C g as M2)) fun r M3 => match asB r with
      | some c => some (R.ok (Val.d (.bl (if neg then !c else c))) M3)
      | none => none) = some r → spF S C g ws H2 (EqK neg Q) fun _ _ _ => False := by
    intro g as ws ra h
    cases z : C g as M2 with
    | none => rw [z] at h; cases h
    | some rr =>
      cases rr with
      | ex x M3 => rw [z] at h; cases h
      | ok u M3 =>
        rw [z] at h
        have h : (match asB u with
          | some c => some (R.ok (Val.d (.bl (if neg then !c else c))) M3)
          | none => none) = some r := h
        refine ⟨μ2, F2, as, M2, _, m2, ra, z, fun μ' F' H' w a3 m3 ru => ?_⟩
        cases hb : asB u with
        | none => rw [hb] at h; cases h
        | some c =>
          rw [hb] at h
          cases h
          exact ⟨c, asB_rep ru hb, k2 μ' F' H' _ a3 m3 (rep_bl (S := S) (F := F'))⟩
  cases we : eqWho tbl up (clsOf v M2) (clsOf w M2) (isTupV w) with
  | some p =>
    obtain ⟨sw, g⟩ := p
    simp only [we] at h2
    refine .inl ?_
    cases hv : clsOf v M2 with
    | none => rw [hv] at we; cases we
    | some c =>
      rw [hv] at we
      cases hw : clsOf w M2 with
      | some d =>
        rw [hw] at we
        have we : (if (c, d) ∈ up then (tbl.lookup d).map fun g => (true, g) else (tbl.lookup c).map fun g => (false, g)) = some (sw, g) := we
        split at we
        · rename_i hup
          cases hl : tbl.lookup d with
          | none => rw [hl] at we; cases we
          | some g' =>
            rw [hl] at we
            cases we
            exact ⟨c, _, .inr ⟨d, hl, ins hv q1, ins hw q2, hup, fin (as := [w, v]) ⟨q2, q1, trivial⟩ h2⟩⟩
        · rename_i hup
          cases hl : tbl.lookup c with
          | none => rw [hl] at we; cases we
          | some g' =>
            rw [hl] at we
            cases we
            exact ⟨c, _, .inl ⟨hl, ins hv q1, .inl ⟨d, ins hw q2, hup⟩, fin (as := [v, w]) ⟨q1, q2, trivial⟩ h2⟩⟩
      | none =>
        rw [hw] at we
        have we : (if isTupV w = true then (tbl.lookup c).map fun g => (false, g) else none) = some (sw, g) := we
        split at we
        · rename_i ht
          cases hl : tbl.lookup c with
          | none => rw [hl] at we; cases we
          | some g' =>
            rw [hl] at we
            cases we
            have tup : ∃ a ys, y = V.ref a ∧ SqT S.K H2 a ys := by
              cases w with
              | rf n => cases ht
              | d z =>
                cases z with
                | tup xs =>
                  obtain ⟨a, vs, rfl, p1, p2⟩ := repD_tup (S := S) (F := F2) q2
                  exact ⟨a, vs, rfl, Evl.ex_t m2.sub p1⟩
                | _ => cases ht
            exact ⟨c, _, .inl ⟨hl, ins hv q1, .inr tup, fin (as := [v, w]) ⟨q1, q2, trivial⟩ h2⟩⟩
        · cases we
  | none =>
    simp only [we] at h2
    split at h2
    · obtain ⟨xs, z, s1, s2, rfl⟩ := runOp_see (by cases neg <;> rfl) h2
      obtain ⟨d, e, rfl, sd, se⟩ := sees_two s1
      exact .inr ⟨F2, m2.sub, d, e, see_ok m2 q1 sd, see_ok m2 q2 se, z, s2, gives_of m2 k2⟩
    · cases h2
end
end PyI

/-! PyI L: == and != of lists of instances, all pairs equal. -/
namespace PyI
open PySem PySem.Spec PyProof.Rows L2 PySem.SeqAt
open Evl (Ex)
section
open AutoSeq1 (wpAny_loadPart')
open MeetsSeq MeetsSeq2 MeetsSeq3 SeqRoads2
variable {prog : Program} {w : World} {A : Around} {R : Result → Shared → Prop}
theorem loop_ne (p q : Addr) (N : Nat) (J : Nat → Shared → Prop)
    (each : GQ.ListI prog w A (fun e t => R (.error e) t) p q N J)
    (done : ∀ t, J N t → R (.ok (.ret (.bool false))) t) (d : Nat) :
    ∀ i : Nat, N - i = d → i ≤ N → ∀ t, J i t →
      wpAny (model prog w) A.in1
        (Builtin.«list.__eq__.loop» ⟨[.ref p, .ref q, rawInt i, rawInt 3], []⟩)
        (GQ.FinOf prog w A R) (fun e t' => R (.error e) t') t := by
  induction d with
  | zero =>
    intro i hd hi t h
    obtain ⟨xs, ys, n, m, e1, e2, z1, z2, _⟩ := each _ _ h
    have hN : i = N := by omega
    have hR := done t (hN ▸ h)
    obtain ⟨hp, g, d, tk, os⟩ := t
    wp_walk using wpAny_loadPart' e1, wpAny_loadPart' e2
    have a1 : xs[((i : Nat) : Int).toNat]? = none := by simp; omega
    have a2 : ys[((i : Nat) : Int).toNat]? = none := by simp; omega
    rw [a1, a2]
    wp_walk using wpAny_loadPart' e1, wpAny_loadPart' e2
    show R (.ok (.ret (.bool (xs.size != ys.size)))) _
    rw [z1, z2]
    simpa using hR
  | succ d ih =>
    intro i hd hi t h
    obtain ⟨xs, ys, n, m, e1, e2, z1, z2, one⟩ := each _ _ h
    have l1 : i < xs.size := by omega
    have l2 : i < ys.size := by omega
    have step := one l1 l2
    obtain ⟨hp, g, d', tk, os⟩ := t
    wp_walk using wpAny_loadPart' e1, wpAny_loadPart' e2
    have a1 : xs[((i : Nat) : Int).toNat]? = some xs[i] := by simp [l1]
    have a2 : ys[((i : Nat) : Int).toNat]? = some ys[i] := by simp [l2]
    have up : ((i : Int) + 1) = ((i + 1 : Nat) : Int) := by omega
    rw [a1, a2]
    refine wpAny_bind (wpAny_mono step (fun r t2 h2 => ?_) fun _ _ x => x)
    obtain ⟨hr, h2⟩ := h2
    subst hr
    have rec_ := ih (i + 1) (by omega) (by omega) t2 h2
    obtain ⟨hp2, g2, d2, tk2, os2⟩ := t2
    wp_walk
    rw [up]
    refine ⟨plainId_quiet plain_eq_loop _, codeAny_builtin entry_eq_loop ?_⟩
    rw [Around.under_plainId plain_eq_loop _]
    exact rec_
theorem body_ne (p q : Addr) (N : Nat) (J : Nat → Shared → Prop)
    (each : GQ.ListI prog w A (fun e t => R (.error e) t) p q N J)
    (done : ∀ t, J N t → R (.ok (.ret (.bool false))) t) {t : Shared} (h : J 0 t) :
    wpAny (model prog w) A.in1 (Builtin.«list.__ne__» ⟨[.ref p, .ref q], []⟩)
      (GQ.FinOf prog w A R) (fun e t' => R (.error e) t') t := by
  obtain ⟨xs, ys, n, m, e1, e2, z1, z2, _⟩ := each _ _ h
  have rec_ := loop_ne (A := A) (R := R) p q N J each done _ 0 rfl (Nat.zero_le _) t h
  obtain ⟨hp, g, d, tk, os⟩ := t
  have sb := AutoSeq1.sub_list_list
  have same : ¬ (xs.size != ys.size) = true := by simp [z1, z2]
  wp_walk using wpAny_loadPart' e1, wpAny_loadPart' e2
  refine ⟨plainId_quiet plain_eq_loop _, codeAny_builtin entry_eq_loop ?_⟩
  rw [Around.under_plainId plain_eq_loop _]
  exact rec_
theorem rich_ne {E : Value → Shared → Prop} {t : Shared} {p q : Addr} {N : Nat} {Q : Value → Shared → Prop} (hu : A.units < cLine)
    (J : Nat → Shared → Prop) (each : GQ.ListI prog w A E p q N J)
    (done : ∀ t, J N t → Q (.bool false) t) (h : J 0 t) :
    wpAny (model prog w) A (richCompare .NotEq (.ref p) (.ref q)) Q E t := by
  obtain ⟨xs, ys, n, m, e1, e2, _, _, _⟩ := each _ _ h
  refine wpAny_richCompare_same_room (op := .NotEq) ⟨_, e1, rfl⟩ ⟨_, e2, rfl⟩ F.slot_list_ne
    (GQ.call_here F.slot_list_ne ⟨_, e1, rfl⟩ F.entry_list_ne (F.args_list_ne_2 _ _) ?_) hu
  exact body_ne (R := wants (fun v t' => v ≠ .notImplemented ∧ Q v t') E) p q N J each
    (fun t' z => ⟨(fun x => nomatch x), done t' z⟩) h
end
open PySem.W (Looks InstAt findIn isFn subIn mroIn typeIn looks_findIn looks_subIn looks_mroIn)
section
variable {S : Sta} {C : Orc} {X : Cx} {CT : CXT} {k : Nat}
theorem InsAt.ext {H H' : Hp} {x : V} {c : Nat} (h : InsAt S H x c) (e : L2.Ext H H') : InsAt S H' x c := by
  obtain ⟨hc, a, dx, gs, rfl, ha⟩ := h
  exact ⟨hc, a, dx, gs, rfl, e _ _ ha⟩
/-- two instances of one class whose own __eq__ says True, now and later -/
def Same (S : Sta) (C : Orc) (tbl : List (Nat × Nat)) (x y : V) (H : Hp) : Prop := ∃ c g, tbl.lookup c = some g ∧ InsAt S H x c ∧ InsAt S H y c ∧
  ∀ H', L2.Ext H H' → spF S C g [x, y] H' (fun v H2 => v = .bl true ∧ L2.Ext H' H2) fun _ _ _ => False
theorem Same.ext {tbl : List (Nat × Nat)} {x y : V} {H H' : Hp} (h : Same S C tbl x y H) (e : L2.Ext H H') : Same S C tbl x y H' := by
  obtain ⟨c, g, h1, h2, h3, h4⟩ := h
  exact ⟨c, g, h1, h2.ext e, h3.ext e, fun H2 e2 => h4 H2 (e.trans e2)⟩
theorem same_run (hK : X.K = S.K) (B : BaseF S) {tbl up : List (Nat × Nat)} (ef : EqF S tbl up) (F : ∀ g, GoR X.prog X.w X.K X.mg X.base CT k (S.fa g) (spF S C g))
    (hx : ∀ (st : List PySem.Env) (H : Hp) (s : Shared) (e : Value) (s' : Shared), CT st H s (fun _ _ _ => False) e s' → False)
    {A : Around} (hg : A.guards = some []) (ra : Room k A) (fr : A.frames = X.A.frames) {pins : List (Addr × Obj)} {σ : Sl} {H : Hp} {s : Shared} {x y : V} {u v : Value} (I : Inv X pins σ H s) (rx : L2.RelV x u) (ry : L2.RelV y v)
    (h : Same S C tbl x y H) : wpAny (model X.prog X.w) A (eqBool u v) (fun r s' => r = true ∧ L2.LoopI X pins σ H s') X.xe s := by
  obtain ⟨c, g, hl, hx1, hy1, hq⟩ := h
  have kin : S.K.In s.heap := hK ▸ I.kIn
  have hu : A.units < cLine := by have := ra.un; omega
  obtain ⟨hc, a, ox, od, rfl, J⟩ := insAt_look B I hx1
  obtain ⟨-, b, oy, oe, rfl, J2⟩ := insAt_look B I hy1
  cases (show u = Value.ref a from rx)
  cases (show v = Value.ref b from ry)
  by_cases hab : a = b
  · subst hab
    exact SeqAt.EqAt.same (A := A) (s := s) (.ref a) X.prog X.w X.xe _ ⟨rfl, H, I, L2.Ext.rfl'⟩
  · obtain ⟨e1, e2, e3, _⟩ := ef.eq c g hl hc
    have ea : Env0 X.prog X.w X.K X.mg X.base A X.stack s H := by
      have e := I.env0
      exact ⟨by rw [fr]; exact e.frames, e.mod, e.bs, e.bsz, e.funs, e.frf, e.hok, e.bare⟩
    refine GQ.eqBool_refG hab (rich_left hu kin J J2.type (.inl rfl) (try_eq kin J e1 e2 ?_))
    refine wpAny_call (codeAny_mono (F g A X.stack s H [.ref a, .ref b] [.ref a, .ref b] _ _ hg ra ea (.cons (show L2.RelV (V.ref a) _ from rfl) (.cons (show L2.RelV (V.ref b) _ from rfl) .nil)) (hq H L2.Ext.rfl')) fun r s' z => ?_)
    cases r with
    | error er => exact (hx _ _ _ _ _ z).elim
    | ok fl =>
      cases fl with
      | ret w =>
        obtain ⟨z', H', I', rz, rfl, ex⟩ := I.after z
        cases (show w = Value.bool true from rz)
        exact ⟨true, rfl, .bool true, rfl, true, rfl, rfl, H', I', ex⟩
      | _ => exact False.elim z
/-- lists whose pairs are found equal -/
def rEqL (S : Sta) (C : Orc) (tbl : List (Nat × Nat)) (neg : Bool) : R2 := fun x y H Q => ∃ a b xs ys, x = .ref a ∧ y = .ref b ∧ H a = some (.lst xs) ∧ H b = some (.lst ys) ∧ xs.length = ys.length ∧
  (∀ (i : Nat) x y, xs[i]? = some x → ys[i]? = some y → Same S C tbl x y H) ∧ ∀ H', L2.Ext H H' → Q (.bl (!neg)) H'
theorem op_eqL (hK : X.K = S.K) (B : BaseF S) {tbl up : List (Nat × Nat)} (ef : EqF S tbl up) (F : ∀ g, GoR X.prog X.w X.K X.mg X.base CT k (S.fa g) (spF S C g)) (hg : X.A.guards = some []) (hr : Room (k + 1) X.A)
    (hx : ∀ (st : List PySem.Env) (H : Hp) (s : Shared) (e : Value) (s' : Shared), CT st H s (fun _ _ _ => False) e s' → False) (neg : Bool) :
    OpR X (compareOp (if neg then .NotEq else .Eq)) (rEqL S C tbl neg) := by
  intro pins s σ H x y v u Q I rx ry h
  obtain ⟨a, b, xs, ys, rfl, rfl, ha, hb, len, same, q⟩ := h
  cases (show v = Value.ref a from rx)
  cases (show u = Value.ref b from ry)
  have hu : X.A.units < cLine := by have := hr.un; omega
  have each : GQ.ListI X.prog X.w X.A X.xe a b xs.length (fun _ s' => L2.LoopI X pins σ H s') := by
    intro i s' z
    obtain ⟨H1, I1, e1⟩ := id z
    obtain ⟨za, its, n1, r1, p1⟩ := I1.hok a _ (e1 _ _ ha)
    obtain ⟨zb, its2, n2, r2, p2⟩ := I1.hok b _ (e1 _ _ hb)
    refine ⟨its.toArray, its2.toArray, n1, n2, p1, p2, by rw [List.size_toArray, ← r1.length], by rw [List.size_toArray, ← r2.length, ← len], fun l1 l2 => ?_⟩
    have k1 : i < its.length := by simpa using l1
    have k2 : i < its2.length := by simpa using l2
    have x1 : i < xs.length := by rw [r1.length]; exact k1
    have y1 : i < ys.length := by rw [r2.length]; exact k2
    obtain ⟨w1, g1, t1⟩ := r1.get (List.getElem?_eq_getElem x1)
    obtain ⟨w2, g2, t2⟩ := r2.get (List.getElem?_eq_getElem y1)
    have f1 : its.toArray[i] = w1 := by
      rw [List.getElem?_eq_getElem k1] at g1
      simpa using Option.some.inj g1
    have f2 : its2.toArray[i] = w2 := by
      rw [List.getElem?_eq_getElem k2] at g2
      simpa using Option.some.inj g2
    rw [f1, f2]
    refine wpAny_mono (same_run hK B ef F hx (A := X.A.in1) hg hr.in1 rfl I1 t1 t2 ((same i _ _ (List.getElem?_eq_getElem x1) (List.getElem?_eq_getElem y1)).ext e1)) (fun r s2 z2 => ?_) fun _ _ e => e
    obtain ⟨er, H2, I2, e2⟩ := z2
    exact ⟨er, H2, I2, e1.trans e2⟩
  have start : L2.LoopI X pins σ H s := ⟨H, I, L2.Ext.rfl'⟩
  cases neg with
  | false =>
    show wpAny (model X.prog X.w) X.A (richCompare .Eq (.ref a) (.ref b)) (EP X pins σ Q) X.xe s
    exact GQ.rc_listG hu _ each (fun s' ⟨H', I', e⟩ => ⟨.bl true, H', I', rfl, q H' e⟩) start
  | true =>
    show wpAny (model X.prog X.w) X.A (richCompare .NotEq (.ref a) (.ref b)) (EP X pins σ Q) X.xe s
    exact rich_ne hu _ each (fun s' ⟨H', I', e⟩ => ⟨.bl false, H', I', rfl, q H' e⟩) start
theorem pairs_of (B : BaseF S) {tbl : List (Nat × Nat)} {F H : Hp} (ex : Evl.Ex F H) : ∀ {xs ys : List PyI.D} {vs ws : List V}, allSame C tbl xs ys → RepL S F xs vs → RepL S F ys ws → vs.length = ws.length ∧ ∀ (i : Nat) x y, vs[i]? = some x → ws[i]? = some y → Same S C tbl x y H
  | [], [], vs, ws, _, r1, r2 => by
    rw [repL_nil r1, repL_nil r2]
    exact ⟨rfl, fun i x y h _ => by simp at h⟩
  | [], _ :: _, vs, ws, h, _, _ => h.elim
  | _ :: _, [], vs, ws, h, _, _ => h.elim
  | d :: xs, e :: ys, vs, ws, h, r1, r2 => by
    obtain ⟨⟨c, fs, gs, g, rfl, rfl, hl, hc⟩, h2⟩ := h
    obtain ⟨v, vs, rfl, p1, p2⟩ := repL_cons r1
    obtain ⟨w, ws, rfl, q1, q2⟩ := repL_cons r2
    obtain ⟨l, ih⟩ := pairs_of B ex h2 p2 q2
    refine ⟨by simp [l], fun i x y hx hy => ?_⟩
    cases i with
    | succ i => exact ih i x y (by simpa using hx) (by simpa using hy)
    | zero =>
      have hx : v = x := by simpa using hx
      have hy : w = y := by simpa using hy
      subst hx hy
      have at_ : ∀ {fs : List PyI.D} {v : V}, RepD S F (.ins c fs) v → InsAt S H v c := by
        intro fs v r
        obtain ⟨hc, a, dx, us, rfl, q1, q2, q3⟩ := repD_ins (S := S) (F := F) r
        exact ⟨hc, a, dx, _, rfl, ex _ _ q1⟩
      refine ⟨c, g, hl, at_ p1, at_ q1, fun H' e => ?_⟩
      refine ⟨fun _ => 0, F, _, [], _, ⟨fun a o z => e _ _ (ex _ _ z), fun n c e => by simp at e, fun n m h1 => by simp at h1⟩, (show RepVs S F (fun _ => 0) 0 [Val.d (.ins c fs), Val.d (.ins c gs)] [v, w] from ⟨p1, q1, trivial⟩), hc, fun μ' F' H2 w a m r => ?_⟩
      exact ⟨repD_bl (S := S) (F := F') r, fun b o z => a.fr b o z fun n hn => by simp at hn⟩
theorem rE_eql {W : WX} (B : BaseF S) {tbl : List (Nat × Nat)} {neg : Bool} {a b : IE} {σ : Sl} {H : Hp} {Q : VK} (q : rE S C W (.eql neg tbl a b) σ H Q) : tOp (rEqL S C tbl neg) (rE S C W a) (rE S C W b) σ H Q := by
  obtain ⟨μ, F, env, M, r, hM, hE, hd, hk⟩ := q
  unfold denE at hd
  refine rE_bnd hM hE hd hk fun μ1 F1 H1 v M1 x a1 m1 e1 q1 h1 k1 => ?_
  refine rE_bnd m1 e1 h1 k1 fun μ2 F2 H2 w M2 y a2 m2 e2 q2 h2 k2 => ?_
  have q1 := q1.aft a2
  cases v with
  | rf n => cases h2
  | d dv =>
    cases w with
    | rf n => cases dv <;> cases h2
    | d dw =>
      cases dv with
      | lst xs =>
        cases dw with
        | lst ys =>
          unfold runEql at h2
          simp only at h2
          split at h2
          · rename_i hs
            cases h2
            obtain ⟨a, vs, rfl, p1, p2⟩ := (show ∃ a vs, x = V.ref a ∧ F2 a = some (.lst vs) ∧ RepL S F2 xs vs by simpa only [RepV, RepD] using q1)
            obtain ⟨b, ws, rfl, r1, r2⟩ := (show ∃ a vs, y = V.ref a ∧ F2 a = some (.lst vs) ∧ RepL S F2 ys vs by simpa only [RepV, RepD] using q2)
            obtain ⟨len, ps⟩ := pairs_of B m2.sub hs p2 r2
            refine ⟨a, b, vs, ws, rfl, rfl, m2.sub _ _ p1, m2.sub _ _ r1, len, ps, fun H' e => ?_⟩
            have g : Grow F2 F2 H2 H' := ⟨Evl.Ex.refl F2, fun a o z => e a o z, fun b o z => .inl z, m2.sub.trans fun a o z => e a o z⟩
            exact k2 μ2 F2 H' _ (g.aft (μ := μ2) (k := M2.length)) (m2.grow g) (rep_bl (S := S) (F := F2))
          · cases h2
        | _ => cases h2
      | _ => cases h2
end
end PyI

/-! PyI O: in, repr, f-strings, slices, chains of comparisons. -/
namespace PyI
open PySem PySem.Spec PyProof.Rows L2
open Evl (Ex)
section
variable {S : Sta} {C : Orc} {W : WX} {X : Cx} {CT : CXT} {k : Nat}

/-! ### in -/
theorem flat_V {F : Hp} {x : D} {v : V} (h : RepD S F x v) (f : flatD x = true) : flatV v = true := by
  cases x with
  | non => rw [repD_non (S := S) (F := F) h]; rfl
  | bl b => rw [repD_bl (S := S) (F := F) h]; rfl
  | int b => rw [repD_int (S := S) (F := F) h]; rfl
  | str b => rw [repD_str (S := S) (F := F) h]; rfl
  | _ => cases f
theorem flat_eqV {F : Hp} {x y : D} {v w : V} {d e : PyData} (hx : RepD S F x v) (hy : RepD S F y w) (fx : flatD x = true) (fy : flatD y = true) (ex : x.toP = some d) (ey : y.toP = some e) : eqV v w = PyData.eqv d e := by
  cases x with
  | non =>
    rw [repD_non (S := S) (F := F) hx]
    have ex : some PyData.none = some d := by simpa only [D.toP] using ex
    cases ex
    cases y with
    | non => rw [repD_non (S := S) (F := F) hy]; have ey : some PyData.none = some e := (by simpa only [D.toP] using ey); cases ey; simp [eqV, PyData.eqv]
    | bl b => rw [repD_bl (S := S) (F := F) hy]; have ey : some (PyData.bool b) = some e := (by simpa only [D.toP] using ey); cases ey; simp [eqV, PyData.eqv]
    | int b => rw [repD_int (S := S) (F := F) hy]; have ey : some (PyData.int b) = some e := (by simpa only [D.toP] using ey); cases ey; simp [eqV, PyData.eqv]
    | str b => rw [repD_str (S := S) (F := F) hy]; have ey : some (PyData.str b) = some e := (by simpa only [D.toP] using ey); cases ey; simp [eqV, PyData.eqv]
    | _ => cases fy
  | bl a =>
    rw [repD_bl (S := S) (F := F) hx]
    have ex : some (PyData.bool a) = some d := by simpa only [D.toP] using ex
    cases ex
    cases y with
    | non => rw [repD_non (S := S) (F := F) hy]; have ey : some PyData.none = some e := (by simpa only [D.toP] using ey); cases ey; simp [eqV, PyData.eqv]
    | bl b => rw [repD_bl (S := S) (F := F) hy]; have ey : some (PyData.bool b) = some e := (by simpa only [D.toP] using ey); cases ey; simp [eqV, PyData.eqv]
    | int b => rw [repD_int (S := S) (F := F) hy]; have ey : some (PyData.int b) = some e := (by simpa only [D.toP] using ey); cases ey; simp [eqV, PyData.eqv]
    | str b => rw [repD_str (S := S) (F := F) hy]; have ey : some (PyData.str b) = some e := (by simpa only [D.toP] using ey); cases ey; simp [eqV, PyData.eqv]
    | _ => cases fy
  | int a =>
    rw [repD_int (S := S) (F := F) hx]
    have ex : some (PyData.int a) = some d := by simpa only [D.toP] using ex
    cases ex
    cases y with
    | non => rw [repD_non (S := S) (F := F) hy]; have ey : some PyData.none = some e := (by simpa only [D.toP] using ey); cases ey; simp [eqV, PyData.eqv]
    | bl b => rw [repD_bl (S := S) (F := F) hy]; have ey : some (PyData.bool b) = some e := (by simpa only [D.toP] using ey); cases ey; simp [eqV, PyData.eqv]
    | int b => rw [repD_int (S := S) (F := F) hy]; have ey : some (PyData.int b) = some e := (by simpa only [D.toP] using ey); cases ey; simp [eqV, PyData.eqv]
    | str b => rw [repD_str (S := S) (F := F) hy]; have ey : some (PyData.str b) = some e := (by simpa only [D.toP] using ey); cases ey; simp [eqV, PyData.eqv]
    | _ => cases fy
  | str a =>
    rw [repD_str (S := S) (F := F) hx]
    have ex : some (PyData.str a) = some d := by simpa only [D.toP] using ex
    cases ex
    cases y with
    | non => rw [repD_non (S := S) (F := F) hy]; have ey : some PyData.none = some e := (by simpa only [D.toP] using ey); cases ey; simp [eqV, PyData.eqv]
    | bl b => rw [repD_bl (S := S) (F := F) hy]; have ey : some (PyData.bool b) = some e := (by simpa only [D.toP] using ey); cases ey; simp [eqV, PyData.eqv]
    | int b => rw [repD_int (S := S) (F := F) hy]; have ey : some (PyData.int b) = some e := (by simpa only [D.toP] using ey); cases ey; simp [eqV, PyData.eqv]
    | str b => rw [repD_str (S := S) (F := F) hy]; have ey : some (PyData.str b) = some e := (by simpa only [D.toP] using ey); cases ey; simp [eqV, PyData.eqv]
    | _ => cases fy
  | _ => cases fx
theorem flat_any {F : Hp} {x : D} {v : V} {d : PyData} (hx : RepD S F x v) (fx : flatD x = true) (ex : x.toP = some d) : ∀ {ys : List D} {ws : List V} {ds : List PyData}, RepL S F ys ws → ys.all flatD = true → toPs ys = some ds →
    ws.all flatV = true ∧ inV v ws = ds.any fun z => PyData.eqv z d
  | [], ws, ds, r, _, e => by
    rw [repL_nil r]
    have e : some [] = some ds := by simpa only [toPs] using e
    cases e
    exact ⟨rfl, rfl⟩
  | y :: ys, ws, ds, r, f, e => by
    obtain ⟨w, us, rfl, r1, r2⟩ := repL_cons r
    obtain ⟨p, qs, rfl, e1, e2⟩ := toPs_cons e
    rw [List.all_cons, Bool.and_eq_true] at f
    obtain ⟨k1, k2⟩ := flat_any hx fx ex r2 f.2 e2
    refine ⟨by rw [List.all_cons, flat_V r1 f.1, k1] <;> rfl, ?_⟩
    show (eqV w v || inV v us) = _
    rw [List.any_cons, k2, flat_eqV r1 hx f.1 fx e1 ex]
theorem flat_A {F H : Hp} {x : D} {v : V} (h : RepA S F H x v) (f : flatD x = true) : RepD S F x v := by
  cases x <;> first | exact h | cases f
def rInO (K : PySem.W.Frag) (neg : Bool) : R2 := fun x y H Q => rIn K neg x y H Q ∨ ∃ d ds, Dp K H x d ∧ Dp K H y (.list ds) ∧ SeqAt.shaped d = true ∧ SeqAt.shaped (.list ds) = true ∧ Q (.bl (if neg then !(ds.any fun z => PyData.eqv z d) else ds.any fun z => PyData.eqv z d)) H
theorem in_cases {F H : Hp} (ex : Ex F H) {x y : D} {v w : V} {b : Bool} {neg : Bool} {Q : VK} (hx : RepA S F H x v) (hy : RepA S F H y w) (h : inD x y = some b) (q : Q (.bl (if neg then !b else b)) H) : rInO S.K neg v w H Q := by
  cases y with
  | lst ys =>
    simp only [inD] at h
    cases e1 : x.toP with
    | none => simp only [e1] at h; cases h
    | some d =>
      cases e2 : toPs ys with
      | none => simp only [e1, e2] at h; cases h
      | some ds =>
        simp only [e1, e2] at h
        split at h
        · rename_i sh
          cases h
          exact .inr ⟨d, ds, dpA_of ex hx e1, dpA_of (x := .lst ys) ex hy (by simp only [D.toP, e2, Option.map_some]), sh.1, sh.2, q⟩
        · cases h
  | tup ys =>
    simp only [inD] at h
    split at h
    · rename_i f
      cases e1 : x.toP with
      | none => simp only [e1] at h; cases h
      | some d =>
        cases e2 : toPs ys with
        | none => simp only [e1, e2] at h; cases h
        | some ds =>
          simp only [e1, e2] at h
          cases h
          obtain ⟨a, vs, rfl, p1, p2⟩ := repD_tup (S := S) (F := F) hy
          have rx := flat_A hx f.1
          obtain ⟨k1, k2⟩ := flat_any rx f.1 e1 p2 f.2 e2
          refine .inl ⟨a, vs, rfl, .inr (Evl.ex_t ex p1), flat_V rx f.1, k1, ?_⟩
          rw [k2]
          exact q
    · cases h
  | _ => simp only [inD] at h; cases h
theorem two_in : Two0 S .isin (rInO S.K false) := by
  intro F H x y d e z Q ex hx hy h g
  have h : (inD d e).map D.bl = some z := h
  cases q : inD d e with
  | none => rw [q] at h; cases h
  | some b =>
    rw [q] at h
    cases h
    exact in_cases (neg := false) ex hx hy q (g.now ex (rep_bl (S := S) (F := F)))
theorem two_notin : Two0 S .notin (rInO S.K true) := by
  intro F H x y d e z Q ex hx hy h g
  have h : (inD d e).map (fun b => D.bl (!b)) = some z := h
  cases q : inD d e with
  | none => rw [q] at h; cases h
  | some b =>
    rw [q] at h
    cases h
    exact in_cases (neg := true) ex hx hy q (g.now ex (rep_bl (S := S) (F := F)))
theorem op_inO (hu : X.A.units + 65 < cLine) : OpR X (compareOp .In) (rInO X.K false) := by
  intro pins s σ H x y v u Q I rx ry q
  rcases q with q | ⟨d, ds, h1, h2, s1, s2, q⟩
  · exact op_in_seq pins s σ H x y v u Q I rx ry q
  · exact op_inD hu pins s σ H x y v u Q I rx ry ⟨d, ds, h1, h2, s1, s2, q⟩
theorem op_notinO (hu : X.A.units + 65 < cLine) : OpR X (compareOp .NotIn) (rInO X.K true) := by
  intro pins s σ H x y v u Q I rx ry q
  rcases q with q | ⟨d, ds, h1, h2, s1, s2, q⟩
  · exact op_notIn_seq pins s σ H x y v u Q I rx ry q
  · exact op_notInD hu pins s σ H x y v u Q I rx ry ⟨d, ds, h1, h2, s1, s2, q⟩

/-! ### chains -/
theorem rE_chain {o o' : Op} {a b d : IE} {r r' : R2} (ho : o.keeps = false) (ho' : o'.keeps = false) (h : Two0 S o r) (h' : Two0 S o' r') {σ : Sl} {H : Hp} {Q : VK} (q : rE S C W (.chain o o' a b d) σ H Q) : tChain r r' (rE S C W a) (rE S C W b) (rE S C W d) σ H Q := by
  obtain ⟨μ, F, env, M, res, hM, hE, hd, hk⟩ := q
  unfold denE at hd
  refine rE_bnd hM hE hd hk fun μ1 F1 H1 v M1 x a1 m1 e1 q1 h1 k1 => ?_
  refine rE_bnd m1 e1 h1 k1 fun μ2 F2 H2 w M2 y a2 m2 e2 q2 h2 k2 => ?_
  rcases bnd_eq h2 with ⟨t, M3, s3, h3⟩ | ⟨xx, M3, s3, -⟩
  · obtain ⟨xs, z, s1, s2, e⟩ := runOp_see ho s3
    cases e
    obtain ⟨dd, ee, rfl, sd, se⟩ := sees_two s1
    refine h F2 H2 x y dd ee z _ m2.sub (see_ok m2 (q1.aft a2) sd) (see_ok m2 q2 se) s2 fun F' H' u gr ru => ?_
    cases hb : asB (.d z) with
    | none => rw [hb] at h3; cases h3
    | some c =>
      rw [hb] at h3
      refine ⟨c, asB_rep (μ := μ2) (k := M2.length) (show RepV S F' μ2 M2.length (.d z) u from ru) hb, ?_⟩
      have m3 := m2.grow gr
      have a3 : Aft μ2 F2 H2 M2.length μ2 F' H' M2.length := gr.aft
      have e3 := e2.aft a3
      have k3 := k2.weak a3
      cases c with
      | false =>
        have h3 : some (R.ok (Val.d (.bl false)) M2) = some res := h3
        cases h3
        exact k3 μ2 F' H' _ Aft.refl m3 (rep_bl (S := S) (F := F'))
      | true =>
        have h3 : (bnd (denE C d env M2) fun u M4 => runOp o' [w, u] M4) = some res := h3
        rw [if_pos rfl]
        refine rE_bnd m3 e3 h3 k3 fun μ4 F4 H4 u4 M4 w4 a4 m4 e4 q4 h4 k4 => ?_
        obtain ⟨xs, z2, s1', s2', e⟩ := runOp_see ho' h4
        subst e
        obtain ⟨d2, e2', rfl, sd2, se2⟩ := sees_two s1'
        exact h' F4 H4 y w4 d2 e2' z2 Q m4.sub (see_ok m4 ((q2.aft a3).aft a4) sd2) (see_ok m4 q4 se2) s2' (gives_of m4 k4)
  · unfold runOp at s3
    rw [ho] at s3
    simp only [Bool.false_eq_true, if_false] at s3
    cases z : sees M2 [v, w] with
    | none => rw [z] at s3; cases s3
    | some xs =>
      simp only [z] at s3
      cases z2 : opD o xs with
      | none => rw [z2] at s3; cases s3
      | some y => rw [z2] at s3; cases s3

/-! ### slices -/
theorem repL_cut {F : Hp} {xs : List D} {vs : List V} (h : RepL S F xs vs) (lo hi : Option Int) : RepL S F (cutD xs lo hi) (cutV vs lo hi) := by
  unfold cutD cutV
  rw [repL_len h]
  exact repL_take _ (repL_drop _ h)
theorem cutV_all {vs : List V} {lo hi : Option Int} (h1 : HT.sIx vs.length 0 lo = 0) (h2 : HT.sIx vs.length vs.length hi = vs.length) : cutV vs lo hi = vs := by
  unfold cutV
  rw [h1, h2]
  simp
def rSlO (K : PySem.W.Frag) : V → Option Int → Option Int → Hp → VK → Prop := fun x lo hi H Q => rSlL K x lo hi H Q ∨ rSlA K x lo hi H Q
theorem slice_gives {F H : Hp} (ex : Ex F H) {x z : D} {v : V} {lo hi : Option Int} {Q : VK} (hx : RepA S F H x v) (h : sliceD x lo hi = some z) (g : Gives S F H z Q) : rSlO S.K v lo hi H Q := by
  cases x with
  | lst xs =>
    cases h
    obtain ⟨a, vs, rfl, h1, h2⟩ := hx
    refine .inl ⟨a, vs, rfl, Evl.sq_of h1, fun p hp => ?_⟩
    have gr := Grow.one ex (.lst (cutV vs lo hi)) hp
    exact g _ _ _ gr (rep_lst upd_same (repL_ex gr.f _ (repL_cut h2 lo hi)))
  | tup xs =>
    cases h
    obtain ⟨a, vs, rfl, h1, h2⟩ := repD_tup (S := S) (F := F) hx
    refine .inr ⟨a, vs, rfl, Evl.ex_t ex h1, fun hw => ?_, fun _ p hp => ?_⟩
    · refine g.now ex (rep_tup h1 ?_)
      have := repL_cut h2 lo hi
      rwa [cutV_all hw.1 hw.2] at this
    · have gr := Grow.one ex (.tup (cutV vs lo hi)) hp
      exact g _ _ _ gr (rep_tup (Evl.st_of upd_same) (repL_ex gr.f _ (repL_cut h2 lo hi)))
  | _ => cases h
/-- the bounds of a slice -/
def tPartI (S : Sta) (C : Orc) (W : WX) : Option IE → TO
  | none => tNoPart
  | some e => tPart (rE S C W e)
def partEs : Option IE → IEs → IEs
  | none, r => r
  | some e, r => .cons (.anint e) r
theorem den_anint (e : IE) (env : Env) (M : Mem) : denE C (.anint e) env M = bnd (denE C e env M) fun v M1 => match v with
    | .d (.int i) => some (.ok (.d (.int i)) M1)
    | _ => none := by
  rw [denE] <;> rfl
theorem rE_slice {x : IE} {lo hi : Option IE} {σ : Sl} {H : Hp} {Q : VK} (q : rE S C W (.op (.slice lo.isSome hi.isSome) (.cons x (partEs lo (partEs hi .nil)))) σ H Q) : tSl (rSlO S.K) (rE S C W x) (tPartI S C W lo) (tPartI S C W hi) σ H Q := by
  obtain ⟨μ, F, env, M, res, hM, hE, hd, hk⟩ := q
  unfold denE at hd
  -- the arguments, one by one
  have args : ∀ (es : IEs) (k : List Val → Mem → Option (R Val)) (x : IE), (bnd (denEs C (.cons x es) env M) k) = bnd (denE C x env M) fun v M1 => bnd (denEs C es env M1) fun vs M2 => k (v :: vs) M2 := by
    intro es k x
    rw [denEs]
    cases denE C x env M with
    | none => rfl
    | some r =>
      cases r with
      | ex y M1 => rfl
      | ok v M1 =>
        simp only [bnd_ok]
        cases denEs C es env M1 with
        | none => rfl
        | some r2 => cases r2 <;> rfl
  have args2 : ∀ (es : IEs) (k : List Val → Mem → Option (R Val)) (x : IE) (M : Mem), (bnd (denEs C (.cons x es) env M) k) = bnd (denE C x env M) fun v M1 => bnd (denEs C es env M1) fun vs M2 => k (v :: vs) M2 := by
    intro es k x M
    rw [denEs]
    cases denE C x env M with
    | none => rfl
    | some r =>
      cases r with
      | ex y M1 => rfl
      | ok v M1 =>
        simp only [bnd_ok]
        cases denEs C es env M1 with
        | none => rfl
        | some r2 => cases r2 <;> rfl
  have nil : ∀ (k : List Val → Mem → Option (R Val)) (M : Mem), bnd (denEs C .nil env M) k = k [] M := fun k M => by rw [denEs]; rfl
  rw [args] at hd
  refine rE_bnd hM hE hd hk fun μ1 F1 H1 v M1 w a1 m1 e1 q1 h1 k1 => ?_
  -- a bound
  have bound : ∀ {μ : Nat → Addr} {F H : Hp} {M : Mem} {e : IE} {k : Val → Mem → Option (R Val)} {Q2 : Option Int → Hp → Prop}, MemR S μ F M H → EnvR S μ F M.length env σ → bnd (denE C (.anint e) env M) k = some res → KE S W μ F H M.length σ Q res →
      (∀ μ1 F1 H1 i M1, Aft μ F H M.length μ1 F1 H1 M1.length → MemR S μ1 F1 M1 H1 → EnvR S μ1 F1 M1.length env σ → k (.d (.int i)) M1 = some res → KE S W μ1 F1 H1 M1.length σ Q res → Q2 (some i) H1) → tPart (rE S C W e) σ H Q2 := by
    intro μ F H M e k Q2 hM hE hd hk next
    have hd : bnd (denE C e env M) (fun v M1 => match v with
      | .d (.int i) => k (.d (.int i)) M1
      | _ => none) = some res := by
      rw [← hd, den_anint]
      cases denE C e env M with
      | none => rfl
      | some r =>
        cases r with
        | ex y M1 => rfl
        | ok v M1 =>
          simp only [bnd_ok]
          cases v with
          | rf n => rfl
          | d y => cases y <;> rfl
    refine rE_bnd hM hE hd hk fun μ1 F1 H1 v M1 w a1 m1 e1 q1 h1 k1 => ?_
    cases v with
    | rf n => cases h1
    | d y =>
      cases y with
      | int i => exact ⟨i, repD_int (S := S) (F := F1) q1, next μ1 F1 H1 i M1 a1 m1 e1 h1 k1⟩
      | _ => cases h1
  cases lo with
  | none =>
    cases hi with
    | none =>
      have h1 : bnd (denEs C .nil env M1) (fun vs M2 => runOp (.slice false false) (v :: vs) M2) = some res := h1
      rw [nil] at h1
      obtain ⟨xs, z, s1, s2, rfl⟩ := runOp_see rfl h1
      obtain ⟨d, rfl, sd⟩ := sees_one s1
      exact slice_gives m1.sub (see_ok m1 q1 sd) s2 (gives_of m1 k1)
    | some b =>
      have h1 : bnd (denEs C (.cons (.anint b) .nil) env M1) (fun vs M2 => runOp (.slice false true) (v :: vs) M2) = some res := h1
      rw [args2] at h1
      show tPart (rE S C W b) σ H1 fun u H3 => rSlO S.K w none u H3 Q
      refine bound m1 e1 h1 k1 fun μ2 F2 H2 i M2 a2 m2 e2 h2 k2 => ?_
      rw [nil] at h2
      obtain ⟨xs, z, s1, s2, rfl⟩ := runOp_see rfl h2
      obtain ⟨d, e, rfl, sd, se⟩ := sees_two s1
      cases se
      exact slice_gives m2.sub (see_ok m2 (q1.aft a2) sd) s2 (gives_of m2 k2)
  | some a =>
    cases hi with
    | none =>
      have h1 : bnd (denEs C (.cons (.anint a) .nil) env M1) (fun vs M2 => runOp (.slice true false) (v :: vs) M2) = some res := h1
      rw [args2] at h1
      show tPart (rE S C W a) σ H1 fun l H2 => rSlO S.K w l none H2 Q
      refine bound m1 e1 h1 k1 fun μ2 F2 H2 i M2 a2 m2 e2 h2 k2 => ?_
      rw [nil] at h2
      obtain ⟨xs, z, s1, s2, rfl⟩ := runOp_see rfl h2
      obtain ⟨d, e, rfl, sd, se⟩ := sees_two s1
      cases se
      exact slice_gives m2.sub (see_ok m2 (q1.aft a2) sd) s2 (gives_of m2 k2)
    | some b =>
      have h1 : bnd (denEs C (.cons (.anint a) (.cons (.anint b) .nil)) env M1) (fun vs M2 => runOp (.slice true true) (v :: vs) M2) = some res := h1
      rw [args2] at h1
      show tPart (rE S C W a) σ H1 fun l H2 => tPart (rE S C W b) σ H2 fun u H3 => rSlO S.K w l u H3 Q
      refine bound m1 e1 h1 k1 fun μ2 F2 H2 i M2 a2 m2 e2 h2 k2 => ?_
      rw [args2] at h2
      refine bound m2 e2 h2 k2 fun μ3 F3 H3 j M3 a3 m3 e3 h3 k3 => ?_
      rw [nil] at h3
      obtain ⟨xs, z, s1, s2, rfl⟩ := runOp_see rfl h3
      obtain ⟨d, ys, rfl, sd, s1⟩ := sees_cons s1
      obtain ⟨e, g, rfl, se, sg⟩ := sees_two s1
      cases se
      cases sg
      exact slice_gives m3.sub (see_ok m3 ((q1.aft a2).aft a3) sd) s2 (gives_of m3 k3)
end
end PyI

/-! PyI R: repr, f-strings, reversed lists. -/
namespace PyI
open PySem PySem.Spec PyProof.Rows L2
open Evl (Ex)
open PySem.W (findIn isFn)
/-- whose __repr__ is a def -/
def ReprF (S : Sta) (tbl : List (Nat × Nat)) : Prop := ∀ c g, tbl.lookup c = some g → S.ih c = true → findIn S.K (.ref (S.ca c)) "__repr__" = some (some (.ref (S.fa g))) ∧ isFn S.K (.ref (S.fa g)) = true
section
variable {S : Sta} {C : Orc} {W : WX} {X : Cx} {CT : CXT} {k : Nat}
/-- data that repr can show -/
def ShowAt (K : PySem.W.Frag) (H : Hp) (x : V) (y : Str) : Prop := ∃ a d, x = .ref a ∧ Dp K H x d ∧ d.hasDict = false ∧ d.showable = true ∧ d.depth ≤ 64 ∧ d.shown.length ≤ sizeLine ∧ y = d.shown
theorem showD_at {F H : Hp} (ex : Ex F H) {x : D} {v : V} {y : Str} (h : RepA S F H x v) (e : showD x = some y) : ShowAt S.K H v y := by
  unfold showD at e
  cases e1 : x.toP with
  | none => rw [e1] at e; cases e
  | some d =>
    rw [e1] at e
    simp only at e
    split at e
    · rename_i q
      cases e
      obtain ⟨a, ha⟩ : ∃ a, v = V.ref a := by
        cases x with
        | tup xs => obtain ⟨a, vs, rfl, -⟩ := repD_tup (S := S) (F := F) h; exact ⟨a, rfl⟩
        | lst xs => obtain ⟨a, vs, rfl, -⟩ := h; exact ⟨a, rfl⟩
        | frl xs => obtain ⟨a, vs, rfl, -⟩ := repD_frl (S := S) (F := F) h; exact ⟨a, rfl⟩
        | _ => exact absurd q.1 (by simp [isSq])
      exact ⟨a, d, ha, dpA_of ex h e1, q.2.1, q.2.2.1, q.2.2.2.1, q.2.2.2.2, rfl⟩
    · cases e
def rRepr (S : Sta) (C : Orc) (tbl : List (Nat × Nat)) : List V → Hp → VK → Prop := fun vs H Q => ∃ x, vs = [x] ∧
  ((∃ c g, tbl.lookup c = some g ∧ InsAt S H x c ∧ spF S C g [x] H (fun v H' => ∃ y, v = .str y ∧ Q (.str y) H') fun _ _ _ => False) ∨ (∃ i : Int, x = .int i ∧ i.natAbs.log2 < 1920 ∧ Q (.str (toString i)) H) ∨ ∃ y, ShowAt S.K H x y ∧ Q (.str y) H)
theorem call_repr (hK : X.K = S.K) (B : BaseF S) {tbl : List (Nat × Nat)} (rf : ReprF S tbl) (F : ∀ g, GoR X.prog X.w X.K X.mg X.base CT k (S.fa g) (spF S C g)) (hg : X.A.guards = some []) (hr : Room (k + 1) X.A)
    (hx : ∀ (st : List PySem.Env) (H : Hp) (s : Shared) (e : Value) (s' : Shared), CT st H s (fun _ _ _ => False) e s' → False) : CallR X (.builtin "repr") (rRepr S C tbl) := by
  intro pins s σ H xs us Q I r q
  obtain ⟨x, rfl, q⟩ := q
  obtain ⟨u, rfl, ru⟩ := vals1 r
  have un := hr.un
  rcases q with ⟨c, g, hl, hi, q⟩ | ⟨i, rfl, hz, q⟩ | ⟨y, ⟨a, d, rfl, dp, h1, h2, h3, h4, rfl⟩, q⟩
  · obtain ⟨hc, a, ox, od, rfl, J⟩ := insAt_look B I hi
    cases (show u = Value.ref a from ru)
    obtain ⟨e1, e2⟩ := rf c g hl hc
    obtain ⟨m, fr⟩ := I.fr
    have in1 := hr.in1.un
    refine PySem.W.repr_K (by omega) fr I.ok.mod.kin J (by rw [hK]; exact e1) (by rw [hK]; exact e2) ?_
    refine wpAny_call (codeAny_mono (F g X.A.in1 X.stack s H [.ref a] [.ref a] _ _ hg hr.in1 I.env0.in1 (.cons (show L2.RelV (V.ref a) _ from rfl) .nil) q) fun r s' z => ?_)
    cases r with
    | error er => exact (hx _ _ _ _ _ z).elim
    | ok fl =>
      cases fl with
      | ret v =>
        obtain ⟨z', H', I', rz, y, rfl, qz⟩ := I.after z
        obtain ⟨t, rfl⟩ := rz
        exact ⟨.str y, H', I', ⟨t, rfl⟩, qz⟩
      | _ => exact False.elim z
  · obtain ⟨t, rfl⟩ := ru
    exact PySem.P.repr_of_int hz ⟨.str _, H, I.tok _, ⟨_, rfl⟩, q⟩
  · cases (show u = Value.ref a from ru)
    obtain ⟨as, rd⟩ := Dp.reads I d (.ref a) (.ref a) (hK ▸ dp) rfl
    exact repr_of_reads' rd h2 (PyData.noDict_hsm h1) hg (by omega) (fun _ _ e => e) (fun h' t tk hk => ⟨.str d.shown, H, I.kept (t' := tk) hk, ⟨_, rfl⟩, q⟩) h4
theorem rE_rpr (B : BaseF S) {tbl : List (Nat × Nat)} {e : IE} {σ : Sl} {H : Hp} {Q : VK} (q : rE S C W (.rpr tbl e) σ H Q) : tCB (rRepr S C tbl) (tCons (rE S C W e) tNil) σ H Q := by
  obtain ⟨μ, F, env, M, res, hM, hE, hd, hk⟩ := q
  unfold denE at hd
  refine rE_bnd hM hE hd hk fun μ1 F1 H1 v M1 w a1 m1 e1 q1 h1 k1 => ⟨w, rfl, ?_⟩
  cases hc : clsOf v M1 with
  | some c =>
    simp only [hc] at h1
    cases hl : tbl.lookup c with
    | none => rw [hl] at h1; cases h1
    | some g =>
      simp only [hl] at h1
      obtain ⟨ih, a, dx, gs, rfl, ha, -⟩ := cls_rep B hc m1 q1
      refine .inl ⟨c, g, hl, ⟨ih, a, dx, gs, rfl, ha⟩, ?_⟩
      cases z : C g [v] M1 with
      | none => rw [z] at h1; cases h1
      | some rr =>
        rw [z] at h1
        cases rr with
        | ex x M2 => cases h1
        | ok u M2 =>
          cases u with
          | rf n => cases h1
          | d y =>
            cases y with
            | str y =>
              cases h1
              refine ⟨μ1, F1, [v], M1, _, m1, ⟨q1, trivial⟩, z, fun μ' F' H' w a3 m3 ru => ?_⟩
              exact ⟨y, repD_str (S := S) (F := F') ru, k1 μ' F' H' _ a3 m3 (rep_str (S := S) (F := F'))⟩
            | _ => cases h1
  | none =>
    simp only [hc] at h1
    obtain ⟨xs, z, s1, s2, rfl⟩ := runOp_see rfl h1
    obtain ⟨d, rfl, sd⟩ := sees_one s1
    have ra := see_ok m1 q1 sd
    have fin : ∀ y, z = .str y → Q (.str y) H1 := fun y e => by
      subst e
      exact k1 μ1 F1 H1 _ Aft.refl m1 (rep_str (S := S) (F := F1))
    have two : ∀ d : D, (∀ i, d ≠ .int i) → opD .repr [d] = (showD d).map .str := fun d hn => by
      cases d <;> first | rfl | exact absurd rfl (hn _)
    by_cases hi : ∃ i, d = .int i
    · obtain ⟨i, rfl⟩ := hi
      have s2 : (if i.natAbs.log2 < 1920 then some (D.str (toString i)) else none) = some z := s2
      split at s2
      · rename_i hz
        cases s2
        exact .inr (.inl ⟨i, repD_int (S := S) (F := F1) ra, hz, fin _ rfl⟩)
      · cases s2
    · rw [two d fun i e => hi ⟨i, e⟩] at s2
      cases q2 : showD d with
      | none => rw [q2] at s2; cases s2
      | some y =>
        rw [q2] at s2
        cases s2
        exact .inr (.inr ⟨y, showD_at m1.sub ra q2, fin y rfl⟩)

/-! ### f-strings -/
def rFmt (K : PySem.W.Frag) (x : V) (H : Hp) (Q : VK) : Prop := (∃ y : Str, x = .str y ∧ y.length ≤ sizeLine ∧ Q (.str y) H) ∨ (∃ i : Int, x = .int i ∧ i.natAbs.log2 < 1920 ∧ Q (.str (toString i)) H) ∨ ∃ y, ShowAt K H x y ∧ Q (.str y) H
theorem pe_fmtO {e : Expr} {te : TE} {pos : Pos} (hg : X.A.guards = some []) (hr : Room (k + 1) X.A) (he : PE X e te) : PE X (.FormattedValue e (-1) none pos) (fun σ H Q => te σ H fun x H1 => rFmt X.K x H1 Q) := by
  refine ⟨fun pins s σ H Q I h => wpAny_FormattedValue_plain (thn (he.run pins s σ H _ I h) fun v s1 hv => ?_)⟩
  obtain ⟨x, H1, I1, r1, q⟩ := hv
  have un := hr.un
  rcases q with ⟨y, rfl, hz, q⟩ | ⟨i, rfl, hz, q⟩ | ⟨y, ⟨a, d, rfl, dp, h1, h2, h3, h4, rfl⟩, q⟩
  · obtain ⟨t, rfl⟩ := r1
    exact wpAny_formatField_str ⟨V.str y, H1, I1, ⟨t, rfl⟩, q⟩ ⟨V.str y, H1, I1.tok _, ⟨_, rfl⟩, q⟩ hz
  · obtain ⟨t, rfl⟩ := r1
    exact wpAny_formatField_int hz ⟨V.str (toString i), H1, I1.tok _, ⟨_, rfl⟩, q⟩
  · cases (show v = Value.ref a from r1)
    obtain ⟨as, rd⟩ := Dp.reads I1 d (.ref a) (.ref a) dp rfl
    exact formatField_of_reads rd h2 (PyData.noDict_hsm h1) hg (by omega) (fun _ _ e => e) (fun h' t tk hk => ⟨.str d.shown, H1, I1.kept (t' := tk) hk, ⟨_, rfl⟩, q⟩) h4
theorem one_fmt : One0 S .fmt (rFmt S.K) := by
  intro F H x d z Q ex hx h g
  have h : (fmtD d).map D.str = some z := h
  cases q : fmtD d with
  | none => rw [q] at h; cases h
  | some y =>
    rw [q] at h
    cases h
    have fin : Q (.str y) H := g.now ex (rep_str (S := S) (F := F))
    cases d with
    | str w =>
      have q : (if w.length ≤ sizeLine then some w else none) = some y := q
      split at q
      · cases q
        exact .inl ⟨_, repD_str (S := S) (F := F) hx, by assumption, fin⟩
      · cases q
    | int i =>
      have q : (if i.natAbs.log2 < 1920 then some (toString i : Str) else none) = some y := q
      split at q
      · cases q
        exact .inr (.inl ⟨i, repD_int (S := S) (F := F) hx, by assumption, fin⟩)
      · cases q
    | tup xs => exact .inr (.inr ⟨y, showD_at ex hx q, fin⟩)
    | lst xs => exact .inr (.inr ⟨y, showD_at ex hx q, fin⟩)
    | _ => cases q
/-- the readings of the pieces -/
def rEsL (S : Sta) (C : Orc) (W : WX) : IEs → List TE
  | .nil => []
  | .cons e es => rE S C W e :: rEsL S C W es
theorem den_fcons (e : IE) (es : IEs) (acc : Str) (env : Env) (M : Mem) : denF C (.cons e es) acc env M = bnd (denE C e env M) fun v M1 => match v with
    | .d (.str y) => if (acc ++ y).length ≤ sizeLine then denF C es (acc ++ y) env M1 else none
    | _ => none := by
  rw [denF] <;> rfl
theorem tJs_of {Q1 : Str → Hp → Prop} {σ : Sl} {Q : VK} (hq : ∀ y H', Q (.str y) H' → Q1 y H') {env : Env} {res : R Val} : ∀ {es : IEs} {μ : Nat → Addr} {F H : Hp} {M : Mem} {acc : Str}, MemR S μ F M H → EnvR S μ F M.length env σ →
    denF C es acc env M = some res → KE S W μ F H M.length σ Q res → tJs (rEsL S C W es) acc σ H Q1
  | .nil, μ, F, H, M, acc, hM, hE, hd, hk => by
    unfold denF at hd
    cases hd
    exact hq _ _ (hk μ F H _ Aft.refl hM (rep_str (S := S) (F := F)))
  | .cons e es, μ, F, H, M, acc, hM, hE, hd, hk => by
    rw [den_fcons] at hd
    refine rE_bnd hM hE hd hk fun μ1 F1 H1 v M1 w a1 m1 e1 q1 h1 k1 => ?_
    cases v with
    | rf n => cases h1
    | d z =>
      cases z with
      | str y =>
        have h1 : (if (acc ++ y).length ≤ sizeLine then denF C es (acc ++ y) env M1 else none) = some res := h1
        split at h1
        · rename_i hz
          exact ⟨y, repD_str (S := S) (F := F1) q1, hz, tJs_of hq m1 e1 h1 k1⟩
        · cases h1
      | _ => cases h1
theorem rE_fstr {es : IEs} {σ : Sl} {H : Hp} {Q : VK} (q : rE S C W (.fstr es) σ H Q) : tJs (rEsL S C W es) Str.empty σ H fun out H1 => Q (.str out) H1 := by
  obtain ⟨μ, F, env, M, res, hM, hE, hd, hk⟩ := q
  unfold denE at hd
  exact tJs_of (fun _ _ z => z) hM hE hd hk
theorem rE_rev {e : IE} {σ : Sl} {H : Hp} {Q : VK} (q : rE S C W (.op .rev (.cons e .nil)) σ H Q) : tRevL S.K (rE S C W e) σ H Q := by
  refine rE_one (r := fun x H Q => ∃ a xs, x = V.ref a ∧ SqL S.K H a xs ∧ ∀ p, H p = none → Q (.ref p) (upd H p (.lst xs.reverse))) rfl (fun F H x d z Q ex hx h g => ?_) q
  cases d with
  | lst xs =>
    cases h
    obtain ⟨a, vs, rfl, h1, h2⟩ := hx
    refine ⟨a, vs, rfl, Evl.sq_of h1, fun p hp => ?_⟩
    have gr := Grow.one ex (.lst vs.reverse) hp
    have rr : ∀ {xs : List D} {vs : List V} {F : Hp}, RepL S F xs vs → RepL S F xs.reverse vs.reverse := by
      intro xs
      induction xs with
      | nil => intro vs F h; rw [repL_nil h]; exact repL_emp
      | cons x xs ih =>
        intro vs F h
        obtain ⟨v, ws, rfl, r1, r2⟩ := repL_cons h
        rw [List.reverse_cons, List.reverse_cons]
        exact repL_app (ih r2) (repL_one r1)
    exact g _ _ _ gr (rep_lst upd_same (repL_ex gr.f _ (rr h2)))
  | _ => cases h
end
end PyI

/-! PyI 6: targets, statements, while. -/
namespace PyI
open PySem PySem.Spec PyProof.Rows L2
open Evl (Ex)

/-- what is wanted behind a statement -/
def KS (S : Sta) (W : WX) (μ : Nat → Addr) (F H : Hp) (k : Nat) (D : Ends) : Fl → Prop
  | .nx env M => ∀ μ' F' H' σ', Aft μ F H k μ' F' H' M.length → MemR S μ' F' M H' → EnvR S μ' F' M.length env σ' → D.nx σ' H'
  | .rt v M => ∀ μ' F' H' w, Aft μ F H k μ' F' H' M.length → MemR S μ' F' M H' → RepV S F' μ' M.length v w → D.rt w H'
  | .bk env M => ∀ μ' F' H' σ', Aft μ F H k μ' F' H' M.length → MemR S μ' F' M H' → EnvR S μ' F' M.length env σ' → D.bk σ' H'
  | .ct env M => ∀ μ' F' H' σ', Aft μ F H k μ' F' H' M.length → MemR S μ' F' M H' → EnvR S μ' F' M.length env σ' → D.ct σ' H'
  | .ex x env M => ∀ μ' F' H' σ' cls d, Aft μ F H k μ' F' H' M.length → MemR S μ' F' M H' → EnvR S μ' F' M.length env σ' → RepX S F' x cls d → W cls d σ' H'
def rS (S : Sta) (C : Orc) (W : WX) (s : IS) : TS := fun D σ H =>
  ∃ μ F env M f, MemR S μ F M H ∧ EnvR S μ F M.length env σ ∧ denS C s env M = some f ∧ KS S W μ F H M.length D f
def rSs (S : Sta) (C : Orc) (W : WX) (s : ISs) : TS := fun D σ H =>
  ∃ μ F env M f, MemR S μ F M H ∧ EnvR S μ F M.length env σ ∧ denSs C s env M = some f ∧ KS S W μ F H M.length D f
section
variable {S : Sta} {C : Orc} {W : WX} {X : Cx}
theorem KS.weak {μ μ1 : Nat → Addr} {F F1 H H1 : Hp} {k k1 : Nat} {D : Ends} {f : Fl} (a : Aft μ F H k μ1 F1 H1 k1) (h : KS S W μ F H k D f) : KS S W μ1 F1 H1 k1 D f := by
  cases f with
  | nx env M => exact fun μ' F' H' σ' b m q => h μ' F' H' σ' (a.trans b) m q
  | rt v M => exact fun μ' F' H' w b m q => h μ' F' H' w (a.trans b) m q
  | bk env M => exact fun μ' F' H' σ' b m q => h μ' F' H' σ' (a.trans b) m q
  | ct env M => exact fun μ' F' H' σ' b m q => h μ' F' H' σ' (a.trans b) m q
  | ex x env M => exact fun μ' F' H' σ' c d b m q => h μ' F' H' σ' c d (a.trans b) m q
/-- an expression, then the rest of the statement -/
theorem rE_bndS {e : IE} {σ : Sl} {H : Hp} {D : Ends} {μ : Nat → Addr} {F : Hp} {env : Env} {M : Mem} {k : Val → Mem → Option Fl} {f : Fl} {Q1 : VK}
    (hM : MemR S μ F M H) (hE : EnvR S μ F M.length env σ) (hd : bndS (denE C e env M) env k = some f) (hk : KS S W μ F H M.length D f)
    (next : ∀ μ1 F1 H1 v M1 w, Aft μ F H M.length μ1 F1 H1 M1.length → MemR S μ1 F1 M1 H1 → EnvR S μ1 F1 M1.length env σ → RepV S F1 μ1 M1.length v w → k v M1 = some f → KS S W μ1 F1 H1 M1.length D f → Q1 w H1) :
    rE S C W e σ H Q1 := by
  rcases bndS_eq hd with ⟨v, M1, e1, h1⟩ | ⟨x, M1, e1, e2⟩
  · exact ⟨μ, F, env, M, _, hM, hE, e1, fun μ1 F1 H1 w a m q => next μ1 F1 H1 v M1 w a m (hE.aft a) q h1 (hk.weak a)⟩
  · subst e2
    exact ⟨μ, F, env, M, _, hM, hE, e1, fun μ1 F1 H1 c d a m q => hk μ1 F1 H1 σ c d a m (hE.aft a) q⟩
theorem rA_bndS {es : IEs} {σ : Sl} {H : Hp} {D : Ends} {μ : Nat → Addr} {F : Hp} {env : Env} {M : Mem} {k : List Val → Mem → Option Fl} {f : Fl} {Q1 : List V → Hp → Prop}
    (hM : MemR S μ F M H) (hE : EnvR S μ F M.length env σ) (hd : bndS (denEs C es env M) env k = some f) (hk : KS S W μ F H M.length D f)
    (next : ∀ μ1 F1 H1 vs M1 ws, Aft μ F H M.length μ1 F1 H1 M1.length → MemR S μ1 F1 M1 H1 → EnvR S μ1 F1 M1.length env σ → RepVs S F1 μ1 M1.length vs ws → k vs M1 = some f → KS S W μ1 F1 H1 M1.length D f → Q1 ws H1) :
    rA S C W es σ H Q1 := by
  rcases bndS_eq hd with ⟨v, M1, e1, h1⟩ | ⟨x, M1, e1, e2⟩
  · exact ⟨μ, F, env, M, _, hM, hE, e1, fun μ1 F1 H1 w a m q => next μ1 F1 H1 v M1 w a m (hE.aft a) q h1 (hk.weak a)⟩
  · subst e2
    exact ⟨μ, F, env, M, _, hM, hE, e1, fun μ1 F1 H1 c d a m q => hk μ1 F1 H1 σ c d a m (hE.aft a) q⟩
theorem rB_bndS {e : IE} {σ : Sl} {H : Hp} {D : Ends} {μ : Nat → Addr} {F : Hp} {env : Env} {M : Mem} {k : Bool → Mem → Option Fl} {f : Fl} {Q1 : Bool → Hp → Prop}
    (hM : MemR S μ F M H) (hE : EnvR S μ F M.length env σ) (hd : bndS (denB C e env M) env k = some f) (hk : KS S W μ F H M.length D f)
    (next : ∀ μ1 F1 H1 b M1, Aft μ F H M.length μ1 F1 H1 M1.length → MemR S μ1 F1 M1 H1 → EnvR S μ1 F1 M1.length env σ → k b M1 = some f → KS S W μ1 F1 H1 M1.length D f → Q1 b H1) :
    rB S C W e σ H Q1 := by
  rcases bndS_eq hd with ⟨v, M1, e1, h1⟩ | ⟨x, M1, e1, e2⟩
  · exact ⟨μ, F, env, M, _, hM, hE, e1, fun μ1 F1 H1 a m => next μ1 F1 H1 v M1 a m (hE.aft a) h1 (hk.weak a)⟩
  · subst e2
    exact ⟨μ, F, env, M, _, hM, hE, e1, fun μ1 F1 H1 c d a m q => hk μ1 F1 H1 σ c d a m (hE.aft a) q⟩

/-! ### blocks -/
theorem pss_nilI : PSs X [] (rSs S C W .nil) := by
  refine pssI pss_nil fun D σ H q => ?_
  obtain ⟨μ, F, env, M, f, hM, hE, hd, hk⟩ := q
  unfold denSs at hd
  have hd := Option.some.inj hd
  subst hd
  exact hk μ F H σ Aft.refl hM hE
theorem pss_consI {st : Stmt} {sts : List Stmt} {s : IS} {ss : ISs} (h1 : PS X st (rS S C W s)) (h2 : PSs X sts (rSs S C W ss)) : PSs X (st :: sts) (rSs S C W (.cons s ss)) := by
  refine pssI (pss_cons h1 h2) fun D σ H q => ?_
  obtain ⟨μ, F, env, M, f, hM, hE, hd, hk⟩ := q
  unfold denSs at hd
  cases e : denS C s env M with
  | none => rw [e] at hd; cases hd
  | some g =>
    refine ⟨μ, F, env, M, g, hM, hE, e, ?_⟩
    rw [e] at hd
    cases g with
    | nx env1 M1 => exact fun μ' F' H' σ' a m r => ⟨μ', F', env1, M1, f, m, r, hd, hk.weak a⟩
    | rt v M1 => cases hd; exact hk
    | bk env1 M1 => cases hd; exact hk
    | ct env1 M1 => cases hd; exact hk
    | ex x env1 M1 => cases hd; exact hk

/-! ### small statements -/
theorem ps_passI {pos : Pos} : PS X (.Pass pos) (rS S C W .pass) := by
  refine psI ps_pass fun D σ H q => ?_
  obtain ⟨μ, F, env, M, f, hM, hE, hd, hk⟩ := q
  unfold denS at hd
  cases hd
  exact hk μ F H σ Aft.refl hM hE
theorem ps_brkI {pos : Pos} : PS X (.Break pos) (rS S C W .brk) := by
  refine psI ps_break fun D σ H q => ?_
  obtain ⟨μ, F, env, M, f, hM, hE, hd, hk⟩ := q
  unfold denS at hd
  cases hd
  exact hk μ F H σ Aft.refl hM hE
theorem ps_contI {pos : Pos} : PS X (.Continue pos) (rS S C W .cont) := by
  refine psI ps_continue fun D σ H q => ?_
  obtain ⟨μ, F, env, M, f, hM, hE, hd, hk⟩ := q
  unfold denS at hd
  cases hd
  exact hk μ F H σ Aft.refl hM hE
theorem ps_docI {x : Str} {j : Nat} {pos pos' : Pos} : PS X (.Expr (.Constant (.str x) j pos) pos') (rS S C W .pass) := by
  refine psI ps_doc fun D σ H q => ?_
  obtain ⟨μ, F, env, M, f, hM, hE, hd, hk⟩ := q
  unfold denS at hd
  cases hd
  exact hk μ F H σ Aft.refl hM hE
theorem ps_retNI {pos : Pos} : PS X (.Return none pos) (rS S C W .retN) := by
  refine psI ps_retN fun D σ H q => ?_
  obtain ⟨μ, F, env, M, f, hM, hE, hd, hk⟩ := q
  unfold denS at hd
  cases hd
  exact hk μ F H _ Aft.refl hM (rep_non (S := S) (F := F))
theorem ps_retI {e : Expr} {ie : IE} {pos : Pos} (he : PE X e (rE S C W ie)) : PS X (.Return (some e) pos) (rS S C W (.ret ie)) := by
  refine psI (ps_ret he) fun D σ H q => ?_
  obtain ⟨μ, F, env, M, f, hM, hE, hd, hk⟩ := q
  unfold denS at hd
  refine rE_bndS hM hE hd hk fun μ1 F1 H1 v M1 w a m e1 r h1 k1 => ?_
  cases h1
  exact k1 μ1 F1 H1 w Aft.refl m r
theorem ps_dropI {e : Expr} {ie : IE} {pos : Pos} (he : PE X e (rE S C W ie)) (hs : swapsWith e none pos.line X.env = pure false) : PS X (.Expr e pos) (rS S C W (.drop ie)) := by
  refine psI (ps_expr he hs) fun D σ H q => ?_
  obtain ⟨μ, F, env, M, f, hM, hE, hd, hk⟩ := q
  unfold denS at hd
  refine rE_bndS hM hE hd hk fun μ1 F1 H1 v M1 w a m e1 r h1 k1 => ?_
  cases h1
  exact k1 μ1 F1 H1 σ Aft.refl m e1
theorem ps_setI {i : Nat} {x : Str} {e : Expr} {ie : IE} {pos' pos : Pos} (hN : X.N.Nodup) (hi : X.N[i]? = some x) (hx : Loc X.env.scope x) (he : PE X e (rE S C W ie))
    (hs : swapsWith e (some (.Name x pos')) pos.line X.env = pure false) (hf : X.fn x = true ∨ X.env.scope.names.lookup x = some .local) : PS X (.Assign [.Name x pos'] e pos) (rS S C W (.set (.nm i) ie)) := by
  refine psI (ps_set hN hi hx he hs hf) fun D σ H q => ?_
  obtain ⟨μ, F, env, M, f, hM, hE, hd, hk⟩ := q
  unfold denS at hd
  refine rE_bndS hM hE hd hk fun μ1 F1 H1 v M1 w a m e1 r h1 k1 => ?_
  cases h1
  exact k1 μ1 F1 H1 _ Aft.refl m (e1.set i r)
theorem ps_ifI {c : Expr} {a b : List Stmt} {ic : IE} {ia ib : ISs} {pos : Pos} (hc : PT X c (rB S C W ic)) (ha : PSs X a (rSs S C W ia)) (hb : PSs X b (rSs S C W ib)) : PS X (.If c a b pos) (rS S C W (.ife ic ia ib)) := by
  refine psI (ps_if hc ha hb) fun D σ H q => ?_
  obtain ⟨μ, F, env, M, f, hM, hE, hd, hk⟩ := q
  unfold denS at hd
  refine rB_bndS hM hE hd hk fun μ1 F1 H1 t M1 a m e1 h1 k1 => ?_
  cases t with
  | true => exact ⟨μ1, F1, env, M1, f, m, e1, h1, k1⟩
  | false => exact ⟨μ1, F1, env, M1, f, m, e1, h1, k1⟩

/-! ### targets -/
mutual
def Tg.slots : Tg → List Nat
  | .nm i => [i]
  | .tp ts => slotsL ts
def slotsL : List Tg → List Nat
  | [] => []
  | t :: ts => t.slots ++ slotsL ts
end
/-- changed at these slots only -/
def OnlyAt (σ σ1 : Sl) (sl : List Nat) : Prop := σ1.length = σ.length ∧ ∀ i : Nat, i ∉ sl → σ1[i]? = σ[i]?
def rG (S : Sta) (tg : Tg) : TG := fun v σ H Q => ∃ μ F k env x env1, EnvR S μ F k env σ ∧ Ex F H ∧ RepD S F x v ∧ tg.bind x env = some env1 ∧ ∀ σ1, EnvR S μ F k env1 σ1 → OnlyAt σ σ1 tg.slots → Q σ1 H
def rGs (S : Sta) (ts : List Tg) : TGs := fun vs σ H Q => ∃ μ F k env xs env1, EnvR S μ F k env σ ∧ Ex F H ∧ RepL S F xs vs ∧ PyI.bindL ts xs env = some env1 ∧ ∀ σ1, EnvR S μ F k env1 σ1 → OnlyAt σ σ1 (slotsL ts) → Q σ1 H
theorem pgI {tg : Expr} {t t' : TG} (h : PG X tg t) (i : ∀ v σ H Q, t' v σ H Q → t v σ H Q) : PG X tg t' := ⟨fun pins s σ H v u Q I r q => h.run pins s σ H v u Q I r (i v σ H Q q)⟩
theorem pgsI {tg : List Expr} {t t' : TGs} (h : PGs X tg t) (i : ∀ v σ H Q, t' v σ H Q → t v σ H Q) : PGs X tg t' := ⟨fun pins s σ H v u Q I r q => h.run pins s σ H v u Q I r (i v σ H Q q)⟩
theorem pg_nmI {i : Nat} {x : Str} {pos : Pos} (hN : X.N.Nodup) (hi : X.N[i]? = some x) (hx : Loc X.env.scope x) (hf : X.fn x = true ∨ X.env.scope.names.lookup x = some .local) : PG X (.Name x pos) (rG S (.nm i)) := by
  refine pgI (pg_name hN hi hx hf) fun v σ H Q q => ?_
  obtain ⟨μ, F, k, env, x, env1, hE, ex, r, hb, hq⟩ := q
  unfold Tg.bind at hb
  cases hb
  refine hq _ (hE.set i (v := .d x) r) ⟨by rw [List.length_set], fun j hj => ?_⟩
  simp only [Tg.slots, List.mem_singleton] at hj
  rw [List.getElem?_set_ne (fun e => hj e.symm)]
theorem pgs_nilI : PGs X [] (rGs S []) := by
  refine pgsI pgs_nil fun v σ H Q q => ?_
  obtain ⟨μ, F, k, env, xs, env1, hE, ex, r, hb, hq⟩ := q
  cases xs with
  | nil =>
    simp only [PyI.bindL, Option.some.injEq] at hb
    subst hb
    exact ⟨repL_nil r, hq _ hE ⟨rfl, fun _ _ => rfl⟩⟩
  | cons y ys => simp only [PyI.bindL] at hb; cases hb
theorem assign_no {e : Expr} {es : List Expr} {env : PySem.Env} (h : ∀ y p, e ≠ .Starred y p) : assignEach (e :: es) env = (false, assign e env) :: assignEach es env := by
  cases e <;> first | rfl | exact absurd rfl (h _ _)
theorem pgs_consI {e : Expr} {es : List Expr} {t : Tg} {ts : List Tg} (h1 : PG X e (rG S t)) (h2 : PGs X es (rGs S ts)) (hs : ∀ y p, e ≠ .Starred y p) : PGs X (e :: es) (rGs S (t :: ts)) := by
  refine pgsI (pgs_cons h1 h2 (by rw [assign_no hs] <;> rfl)) fun v σ H Q q => ?_
  obtain ⟨μ, F, k, env, xs, env1, hE, ex, r, hb, hq⟩ := q
  cases xs with
  | nil => simp only [PyI.bindL] at hb; cases hb
  | cons y ys =>
    obtain ⟨v, ws, rfl, r1, r2⟩ := repL_cons r
    simp only [PyI.bindL] at hb
    cases e1 : t.bind y env with
    | none => rw [e1] at hb; cases hb
    | some env2 =>
      simp only [e1] at hb
      refine ⟨v, ws, rfl, μ, F, k, env, y, env2, hE, ex, r1, e1, fun σ1 h3 o1 => ⟨μ, F, k, env2, ys, env1, h3, ex, r2, hb, fun σ2 h4 o2 => hq σ2 h4 ⟨o2.1.trans o1.1, fun i hi => ?_⟩⟩⟩
      simp only [slotsL, List.mem_append, not_or] at hi
      exact (o2.2 i hi.2).trans (o1.2 i hi.1)
theorem pg_or {tg : Expr} {t t' : TG} (h : PG X tg t) (h' : PG X tg t') : PG X tg (fun v σ H Q => t v σ H Q ∨ t' v σ H Q) :=
  ⟨fun pins s σ H v u Q I r q => q.elim (fun q => h.run pins s σ H v u Q I r q) (fun q => h'.run pins s σ H v u Q I r q)⟩
theorem bindL_len : ∀ {ts : List Tg} {xs : List D} {env env1 : Env}, PyI.bindL ts xs env = some env1 → xs.length = ts.length
  | [], [], _, _, _ => rfl
  | [], _ :: _, _, _, h => by simp only [PyI.bindL] at h; cases h
  | _ :: _, [], _, _, h => by simp only [PyI.bindL] at h; cases h
  | t :: ts, x :: xs, env, env1, h => by
    simp only [PyI.bindL] at h
    cases e1 : t.bind x env with
    | none => rw [e1] at h; cases h
    | some env2 =>
      simp only [e1] at h
      simp only [List.length_cons, bindL_len h]
/-- what is unpacked into several targets: a tuple, a list -/
def gMany (K : PySem.W.Frag) (n : Nat) (t : TGs) : TG := fun v σ H Q => gTup K n t v σ H Q ∨ gLst K n t v σ H Q
theorem pg_manyI {es : List Expr} {k : Nat} {pos : Pos} {t : TGs} {n : Nat} (hc : X.calm = true) (h : PGs X es t) (hn : (assignEach es X.env).length = n) (hst : (assignEach es X.env).findIdx? (·.1) = none) :
    PG X (.Tuple es k pos) (gMany X.K n t) := pg_or (pg_tup hc h hn hst) (pg_lst hc h hn hst)
theorem gMany_of {μ : Nat → Addr} {F H : Hp} {k : Nat} {env env1 : Env} {σ : Sl} {x : D} {v : V} {ts : List Tg} {Q : Sl → Hp → Prop} (hE : EnvR S μ F k env σ) (ex : Ex F H) (r : RepA S F H x v) (hb : (Tg.tp ts).bind x env = some env1)
    (hq : ∀ σ1, EnvR S μ F k env1 σ1 → OnlyAt σ σ1 (slotsL ts) → Q σ1 H) : gMany S.K ts.length (rGs S ts) v σ H Q := by
  cases x with
  | tup xs =>
    simp only [Tg.bind] at hb
    obtain ⟨a, vs, rfl, h1, h2⟩ := repD_tup r
    exact .inl ⟨a, vs, rfl, Evl.ex_t ex h1, by rw [← repL_len h2, bindL_len hb], μ, F, k, env, xs, env1, hE, ex, h2, hb, hq⟩
  | lst xs =>
    simp only [Tg.bind] at hb
    obtain ⟨a, vs, rfl, h1, h2⟩ := r
    exact .inr ⟨a, vs, rfl, Evl.sq_of h1, by rw [← repL_len h2, bindL_len hb], μ, F, k, env, xs, env1, hE, ex, h2, hb, hq⟩
  | _ => simp only [Tg.bind] at hb; cases hb
theorem pg_tpI {es : List Expr} {k : Nat} {pos : Pos} {ts : List Tg} (hK : X.K = S.K) (hc : X.calm = true) (h : PGs X es (rGs S ts)) (hn : (assignEach es X.env).length = ts.length) (hst : (assignEach es X.env).findIdx? (·.1) = none) :
    PG X (.Tuple es k pos) (rG S (.tp ts)) := by
  refine pgI (pg_manyI hc h hn hst) fun v σ H Q q => ?_
  obtain ⟨μ, F, k, env, x, env1, hE, ex, r, hb, hq⟩ := q
  rw [hK]
  exact gMany_of hE ex (repA_of ex r) hb fun σ1 h1 o1 => hq σ1 h1 (by simpa only [Tg.slots] using o1)
/-- a, b = e -/
theorem ps_tpI {es : List Expr} {k : Nat} {tpos pos : Pos} {ts : List Tg} {e : Expr} {ie : IE} (hK : X.K = S.K) (hc : X.calm = true) (h : PGs X es (rGs S ts)) (hn : (assignEach es X.env).length = ts.length) (hst : (assignEach es X.env).findIdx? (·.1) = none)
    (he : PE X e (rE S C W ie)) (hs : swapsWithSole [.Tuple es k tpos] e pos.line X.env = pure false) (hw : swappedStores [.Tuple es k tpos] e X.env = pure none) : PS X (.Assign [.Tuple es k tpos] e pos) (rS S C W (.set (.tp ts) ie)) := by
  refine psI (ps_asg he (pg_manyI hc h hn hst) hs hw rfl) fun D σ H q => ?_
  obtain ⟨μ, F, env, M, f, hM, hE, hd, hk⟩ := q
  unfold denS at hd
  refine rE_bndS hM hE hd hk fun μ1 F1 H1 v M1 w a m e1 r h1 k1 => ?_
  cases q1 : v.see M1 with
  | none => rw [q1] at h1; cases h1
  | some x =>
    simp only [q1] at h1
    cases q2 : (Tg.tp ts).bind x env with
    | none => rw [q2] at h1; cases h1
    | some env1 =>
      simp only [q2] at h1
      cases h1
      rw [hK]
      exact gMany_of e1 m.sub (see_ok m r q1) q2 fun σ1 h3 _ => k1 μ1 F1 H1 σ1 Aft.refl m h3

/-! ### parallel stores -/
theorem parSet_two {i j : Nat} {vs : List Val} {env env1 : Env} (h : parSet [i, j] vs env = some env1) : ∃ v w, vs = [v, w] ∧ env1 = (env.set i (some v)).set j (some w) := by
  match vs with
  | [] => cases h
  | [v] => cases h
  | [v, w] => cases h; exact ⟨v, w, rfl, rfl⟩
  | v :: w :: u :: r => cases h
theorem parSet_three {i j l : Nat} {vs : List Val} {env env1 : Env} (h : parSet [i, j, l] vs env = some env1) : ∃ v w u, vs = [v, w, u] ∧ env1 = ((env.set i (some v)).set j (some w)).set l (some u) := by
  match vs with
  | [] => cases h
  | [v] => cases h
  | [v, w] => cases h
  | [v, w, u] => cases h; exact ⟨v, w, u, rfl, rfl⟩
  | v :: w :: u :: t :: r => cases h
theorem repVs_two {F : Hp} {μ : Nat → Addr} {k : Nat} {v w : Val} {ws : List V} (h : RepVs S F μ k [v, w] ws) : ∃ a b, ws = [a, b] ∧ RepV S F μ k v a ∧ RepV S F μ k w b := by
  obtain ⟨a, as, rfl, h1, h2⟩ := h.cons
  obtain ⟨b, bs, rfl, h3, h4⟩ := h2.cons
  rw [h4.nil]
  exact ⟨a, b, rfl, h1, h3⟩
theorem repVs_three {F : Hp} {μ : Nat → Addr} {k : Nat} {v w u : Val} {ws : List V} (h : RepVs S F μ k [v, w, u] ws) : ∃ a b c, ws = [a, b, c] ∧ RepV S F μ k v a ∧ RepV S F μ k w b ∧ RepV S F μ k u c := by
  obtain ⟨a, as, rfl, h1, h2⟩ := h.cons
  obtain ⟨b, c, rfl, h3, h4⟩ := repVs_two h2
  exact ⟨a, b, c, rfl, h1, h3, h4⟩
theorem ps_par2I {i j : Nat} {x y : Str} {a b : Expr} {ies : IEs} {px py pt pos pt2 : Pos} {kt k2 : Nat} (hc : X.calm = true) (hN : X.N.Nodup) (hi : X.N[i]? = some x) (hj : X.N[j]? = some y) (hij : i ≠ j)
    (hx : X.env.scope.names.lookup x = some .local) (hy : X.env.scope.names.lookup y = some .local) (ha : PA X [a, b] (rA S C W ies))
    (hw : swappedStores [.Tuple [.Name x px, .Name y py] kt pt] (.Tuple [a, b] k2 pt2) X.env = pure (some [x, y])) :
    PS X (.Assign [.Tuple [.Name x px, .Name y py] kt pt] (.Tuple [a, b] k2 pt2) pos) (rS S C W (.par [i, j] ies)) := by
  refine psI (ps_par hc hN hi hj hij hx hy ha hw rfl) fun D σ H q => ?_
  obtain ⟨μ, F, env, M, f, hM, hE, hd, hk⟩ := q
  unfold denS at hd
  refine rA_bndS hM hE hd hk fun μ1 F1 H1 vs M1 ws a m e1 r h1 k1 => ?_
  cases q1 : parSet [i, j] vs env with
  | none => rw [q1] at h1; cases h1
  | some env1 =>
    simp only [q1] at h1
    cases h1
    obtain ⟨v, w, rfl, rfl⟩ := parSet_two q1
    obtain ⟨p, q, rfl, r1, r2⟩ := repVs_two r
    exact ⟨p, q, rfl, k1 μ1 F1 H1 _ Aft.refl m ((e1.set i r1).set j r2)⟩
theorem ps_par3I {i j l : Nat} {x y z : Str} {a b c : Expr} {ies : IEs} {px py pz pt pos pt2 : Pos} {kt k2 : Nat} (hc : X.calm = true) (hN : X.N.Nodup) (hi : X.N[i]? = some x) (hj : X.N[j]? = some y) (hl : X.N[l]? = some z)
    (hij : i ≠ j) (hil : i ≠ l) (hjl : j ≠ l) (hx : X.env.scope.names.lookup x = some .local) (hy : X.env.scope.names.lookup y = some .local) (hz : X.env.scope.names.lookup z = some .local) (ha : PA X [a, b, c] (rA S C W ies))
    (hw : swappedStores [.Tuple [.Name x px, .Name y py, .Name z pz] kt pt] (.Tuple [a, b, c] k2 pt2) X.env = pure (some [x, y, z])) :
    PS X (.Assign [.Tuple [.Name x px, .Name y py, .Name z pz] kt pt] (.Tuple [a, b, c] k2 pt2) pos) (rS S C W (.par [i, j, l] ies)) := by
  refine psI (ps_par3 hc hN hi hj hl hij hil hjl hx hy hz ha hw rfl) fun D σ H q => ?_
  obtain ⟨μ, F, env, M, f, hM, hE, hd, hk⟩ := q
  unfold denS at hd
  refine rA_bndS hM hE hd hk fun μ1 F1 H1 vs M1 ws a m e1 r h1 k1 => ?_
  cases q1 : parSet [i, j, l] vs env with
  | none => rw [q1] at h1; cases h1
  | some env1 =>
    simp only [q1] at h1
    cases h1
    obtain ⟨v, w, u, rfl, rfl⟩ := parSet_three q1
    obtain ⟨p, q, t, rfl, r1, r2, r3⟩ := repVs_three r
    exact ⟨p, q, t, rfl, k1 μ1 F1 H1 _ Aft.refl m (((e1.set i r1).set j r2).set l r3)⟩

/-! ### o[i] = v -/
theorem ps_setixI {o i e : Expr} {io ii ie : IE} {tpos pos : Pos} (ho : PE X o (rE S C W io)) (hi : PE X i (rE S C W ii)) (he : PE X e (rE S C W ie))
    (ha : ∀ v, assign (.Subscript o i tpos) X.env v = (do
      let ov ← holding [v] (eval o X.env)
      let iv ← holding [v, ov] (eval i X.env)
      standAt tpos
      holding [v, ov, iv] (setItem ov iv v)
      release [v, ov, iv] []))
    (hs : swapsWithSole [.Subscript o i tpos] e pos.line X.env = pure false) (hw : swappedStores [.Subscript o i tpos] e X.env = pure none) : PS X (.Assign [.Subscript o i tpos] e pos) (rS S C W (.setix io ii ie)) := by
  refine psI (ps_asg he (pg_sub ho hi set_list ha) hs hw rfl) fun D σ H q => ?_
  obtain ⟨μ, F, env, M, f, hM, hE, hd, hk⟩ := q
  unfold denS at hd
  refine rE_bndS hM hE hd hk fun μ1 F1 H1 v M1 w a1 m1 e1 r1 h1 k1 => ?_
  refine rE_bndS m1 e1 h1 k1 fun μ2 F2 H2 ov M2 w2 a2 m2 e2 r2 h2 k2 => ?_
  refine rE_bndS m2 e2 h2 k2 fun μ3 F3 H3 iv M3 w3 a3 m3 e3 r3 h3 k3 => ?_
  have rv := (r1.aft a2).aft a3
  have ro := r2.aft a3
  cases q1 : setAt ov iv v M3 with
  | none => rw [q1] at h3; cases h3
  | some M4 =>
    simp only [q1] at h3
    cases h3
    cases ov with
    | d x => cases q1
    | rf n =>
      cases iv with
      | rf _ => cases q1
      | d y =>
        cases y with
        | int k =>
          simp only [setAt] at q1
          cases q2 : v.hold M3 with
          | none => rw [q2] at q1; cases q1
          | some p =>
            obtain ⟨x, M5⟩ := p
            simp only [q2] at q1
            obtain ⟨F5, m5, a5, rx⟩ := hold_ok m3 rv q2
            cases q3 : M5[n]? with
            | none => rw [q3] at q1; cases q1
            | some c =>
              rw [q3] at q1
              cases c with
              | lst xs =>
                have q1 : (ixN xs.length k).map (fun j => M5.set n (.lst (xs.set j x))) = some M4 := q1
                cases q4 : ixN xs.length k with
                | none => rw [q4] at q1; cases q1
                | some j =>
                  rw [q4] at q1
                  cases q1
                  obtain ⟨nf, vs, hv, rl⟩ := m5.cell n _ q3
                  have hn : n < M5.length := (List.getElem?_eq_some_iff.mp q3).1
                  have eo : w2 = V.ref (μ3 n) := ro.2
                  obtain ⟨m6, a6⟩ := m5.cellSet (o := .lst (vs.set j w)) (c := .lst (xs.set j x)) hn nf ⟨nf, _, upd_same, repL_set j rl rx⟩
                  refine ⟨μ3 n, vs, k, j, eo, repD_int (S := S) (F := F3) r3, hv, by rw [← repL_len rl]; exact q4, ?_⟩
                  exact k3 μ3 F5 _ σ (a5.trans a6) m6 (e3.aft (a5.trans a6))
              | _ => cases q1
        | _ => cases q1

/-! ### while -/
theorem ps_whlI {c : Expr} {b : List Stmt} {ic : IE} {ib : ISs} {pos : Pos} (hp : PassesOwn (model X.prog X.w) X.A X.env X.xe) (hc : PT X c (rB S C W ic)) (hb : PSs X b (rSs S C W ib)) : PS X (.While c b [] pos) (rS S C W (.whl ic ib)) := by
  refine psI (ps_while hp hc hb) fun D σ H q => ?_
  obtain ⟨μ, F, env, M, f, hM, hE, hd, hk⟩ := q
  unfold denS at hd
  obtain ⟨n, hd⟩ := whl_to hd
  refine ⟨fun m σ H => ∃ μ F env M f, MemR S μ F M H ∧ EnvR S μ F M.length env σ ∧ whlF (denB C ic) (denSs C ib) m env M = some f ∧ KS S W μ F H M.length D f, ⟨n, μ, F, env, M, f, hM, hE, hd, hk⟩, ?_⟩
  rintro m σ H ⟨μ, F, env, M, f, hM, hE, hd, hk⟩
  cases m with
  | zero => cases hd
  | succ m =>
    unfold whlF at hd
    refine rB_bndS hM hE hd hk fun μ1 F1 H1 t M1 a1 m1 e1 h1 k1 => ?_
    cases t with
    | false =>
      rw [if_neg (by decide)] at h1 ⊢
      cases h1
      exact k1 μ1 F1 H1 σ Aft.refl m1 e1
    | true =>
      rw [if_pos rfl] at h1 ⊢
      refine ⟨fun σ H => ∃ μ F env M f, MemR S μ F M H ∧ EnvR S μ F M.length env σ ∧ whlF (denB C ic) (denSs C ib) m env M = some f ∧ KS S W μ F H M.length D f, fun σ' H' h => ⟨m, Nat.lt_succ_self m, h⟩, ?_⟩
      cases q1 : denSs C ib env M1 with
      | none => rw [q1] at h1; cases h1
      | some g =>
        rw [q1] at h1
        refine ⟨μ1, F1, env, M1, g, m1, e1, q1, ?_⟩
        cases g with
        | nx env2 M2 => exact fun μ' F' H' σ' a mm ee => ⟨μ', F', env2, M2, f, mm, ee, h1, k1.weak a⟩
        | ct env2 M2 => exact fun μ' F' H' σ' a mm ee => ⟨μ', F', env2, M2, f, mm, ee, h1, k1.weak a⟩
        | bk env2 M2 =>
          cases h1
          exact fun μ' F' H' σ' a mm ee => k1 μ' F' H' σ' a mm ee
        | rt v M2 => cases h1; exact k1
        | ex x env2 M2 => cases h1; exact k1
end
end PyI

/-! PyI P: the least and the greatest of a row, order of points, tuple(..), places in tuples, rows backwards, defs by their class, a = b = e, what never runs. -/
namespace PyI
open PySem PySem.Spec PyProof.Rows L2
open Evl (Ex)
section
variable {S : Sta} {C : Orc} {W : WX} {X : Cx}

/-! ### the least, the greatest -/
def rBest (K : PySem.W.Frag) (best : PyData → List PyData → PyData) : List V → Hp → VK → Prop := fun xs H Q => ∃ a vs d ds, xs = [V.ref a] ∧ (SqL K H a vs ∨ SqT K H a vs) ∧ DpAll K H vs (d :: ds) ∧
  PySem.W.AlikeAll (d :: ds) ∧ PyData.canLayAll0 (d :: ds) = true ∧ PyData.depthAll (d :: ds) ≤ 64 ∧ ∀ (i : Nat) v, vs[i]? = some v → (d :: ds).getD i PyData.none = best d ds → Q v H
theorem vals_at : ∀ {vs : List V} {us : List Value}, Vals vs us → ∀ (i : Nat) (u : Value), us[i]? = some u → ∃ v, vs[i]? = some v ∧ RelV v u
  | [], _, .nil, i, u, h => by simp at h
  | v :: vs, _, @Paired.cons _ _ _ _ w _ _ r rs, 0, u, h => by
    have e : w = u := by simpa using h
    subst e
    exact ⟨v, rfl, r⟩
  | v :: vs, _, .cons r rs, i + 1, u, h => by
    obtain ⟨y, e, q⟩ := vals_at rs i u (by simpa using h)
    exact ⟨y, by simpa using e, q⟩
theorem lay_mem : ∀ {ds : List PyData}, PyData.canLayAll0 ds = true → ∀ d ∈ ds, d.canLay0 = true
  | [], _, d, h => by cases h
  | x :: xs, q, d, h => by
    have q : x.canLay0 = true ∧ PyData.canLayAll0 xs = true := by simpa [PyData.canLayAll0] using q
    rcases List.mem_cons.mp h with rfl | h
    · exact q.1
    · exact lay_mem q.2 d h
theorem best_fin {best : PyData → List PyData → PyData} {pins : List (Addr × Obj)} {s : Shared} {σ : Sl} {H : Hp} {Q : VK} {vs : List V} {its : List Value} {d : PyData} {ds : List PyData} {as : List Addr} (I : Inv X pins σ H s) (rv : Vals vs its)
    (ra : ReadsAll s.heap its (d :: ds) as) (hl : PyData.canLayAll0 (d :: ds) = true) (q : ∀ (i : Nat) v, vs[i]? = some v → (d :: ds).getD i PyData.none = best d ds → Q v H) :
    ∀ (i : Nat) v h' tk bs, its.toArray[i]? = some v → Reads h' v (best d ds) bs → (∀ b o, s.heap.get? b = some o → h'.get? b = some o) → EP X pins σ Q v { s with heap := h', toks := tk } := by
  intro i v h' tk bs hv hr hk
  have hv : its[i]? = some v := by simpa using hv
  obtain ⟨y, ey, ry⟩ := vals_at rv i v hv
  obtain ⟨cs, r1, _, hm, _⟩ := PySem.W.readsAll_at ra i v hv
  have e := SeqAt.Reads.unique _ _ _ _ _ (lay_mem hl _ hm) (PySem.W.reads_keeps hk r1) hr
  exact ⟨y, H, I.kept hk, ry, q i y ey e⟩
theorem call_minC (hc : X.calm = true) (hu : X.A.units + 200 < cLine) : CallR X (.builtin "min") (rBest X.K PySem.W.minD) := by
  intro pins s σ H xs us Q I r h
  obtain ⟨a, vs, d, ds, rfl, hs, hd, hal, hl, hdep, q⟩ := h
  obtain ⟨u, rfl, rx⟩ := vals1 r
  obtain rfl : u = Value.ref a := rx
  rcases hs with hs | hs
  · obtain ⟨its, rv, pl, hz⟩ := I.list hs
    obtain ⟨as, ra⟩ := Dp.readsAll I (d :: ds) vs its hd rv
    exact PySem.W.min_list_data (I.ok.hd hc) pl.isList (show ReadsAll s.heap its.toArray.toList (d :: ds) as from ra) hal (by omega) (best_fin I rv ra hl q)
  · obtain ⟨its, rv, pl, hz⟩ := I.tuple hs
    obtain ⟨as, ra⟩ := Dp.readsAll I (d :: ds) vs its hd rv
    exact PySem.W.min_tuple_data (I.ok.hd hc) pl (show ReadsAll s.heap its.toArray.toList (d :: ds) as from ra) hal (by omega) (best_fin I rv ra hl q)
theorem call_maxC (hc : X.calm = true) (hu : X.A.units + 200 < cLine) : CallR X (.builtin "max") (rBest X.K PySem.W.maxD) := by
  intro pins s σ H xs us Q I r h
  obtain ⟨a, vs, d, ds, rfl, hs, hd, hal, hl, hdep, q⟩ := h
  obtain ⟨u, rfl, rx⟩ := vals1 r
  obtain rfl : u = Value.ref a := rx
  rcases hs with hs | hs
  · obtain ⟨its, rv, pl, hz⟩ := I.list hs
    obtain ⟨as, ra⟩ := Dp.readsAll I (d :: ds) vs its hd rv
    exact PySem.W.max_list_data (I.ok.hd hc) pl.isList (show ReadsAll s.heap its.toArray.toList (d :: ds) as from ra) hal (by omega) (best_fin I rv ra hl q)
  · obtain ⟨its, rv, pl, hz⟩ := I.tuple hs
    obtain ⟨as, ra⟩ := Dp.readsAll I (d :: ds) vs its hd rv
    exact PySem.W.max_tuple_data (I.ok.hd hc) pl (show ReadsAll s.heap its.toArray.toList (d :: ds) as from ra) hal (by omega) (best_fin I rv ra hl q)
theorem opD_1 {o : Op} (h : o = .tuple ∨ o = .minl ∨ o = .maxl) : ∀ ys : List D, (∀ x, ys ≠ [x]) → opD o ys = none := by
  intro ys q
  match ys with
  | [] => rcases h with rfl | rfl | rfl <;> rfl
  | [x] => exact absurd rfl (q x)
  | x :: y :: r => rcases h with rfl | rfl | rfl <;> first | rfl | (cases x <;> rfl)
def ptP (p : Int × Int) : PyData := .tuple [.int p.1, .int p.2]
theorem toP_int (i : Int) : D.toP (.int i) = some (.int i) := by simp only [D.toP]
theorem toP_ptD (p : Int × Int) : D.toP (ptD p) = some (ptP p) := toP_pt p.1 p.2
theorem toPsM {α : Type} {f : α → D} {g : α → PyData} (h : ∀ x, (f x).toP = some (g x)) : ∀ xs : List α, toPs (xs.map f) = some (xs.map g)
  | [] => by simp only [List.map_nil, toPs]
  | x :: xs => by
    rw [List.map_cons, List.map_cons]
    unfold toPs
    rw [h x, toPsM h xs]
theorem intsOf_eq : ∀ {xs : List D} {ns : List Int}, intsOf xs = some ns → xs = ns.map D.int
  | [], ns, h => by cases h; rfl
  | x :: xs, ns, h => by
    cases x with
    | int i =>
      have h : (intsOf xs).map (i :: ·) = some ns := h
      cases q : intsOf xs with
      | none => rw [q] at h; cases h
      | some ms => rw [q] at h; cases h; rw [intsOf_eq q]; rfl
    | _ => cases h
theorem ptsOf_eq : ∀ {xs : List D} {ps : List (Int × Int)}, ptsOf xs = some ps → xs = ps.map ptD
  | [], ps, h => by cases h; rfl
  | x :: xs, ps, h => by
    unfold ptsOf at h
    split at h
    · rename_i e; cases e
    · rename_i a b ys e
      cases e
      cases q : ptsOf xs with
      | none => rw [q] at h; cases h
      | some ms => rw [q] at h; cases h; rw [ptsOf_eq q]; rfl
    · cases h
/-- a row of data, the best of it -/
theorem best_row {best : PyData → List PyData → PyData} {α : Type} [DecidableEq α] [PySem.W.DatumOrd α] {f : α → D} (hf : ∀ x, (f x).toP = some (PySem.W.Datum.toD x)) (inj : ∀ x y : α, PySem.W.Datum.toD x = PySem.W.Datum.toD y → x = y) {fb : α → List α → α}
    (hb : ∀ x xs, best (PySem.W.Datum.toD x) (xs.map PySem.W.Datum.toD) = PySem.W.Datum.toD (fb x xs)) (hl : ∀ x : α, (PySem.W.Datum.toD x : PyData).canLay0 = true) (hdp : (PySem.W.Datum.depth α) ≤ 64)
    {F H : Hp} {w : V} {d : D} {x : α} {xs : List α} {Q : VK} (ex : Ex F H) (hw : RepA S F H d w) (hi : items d = some ((x :: xs).map f)) (g : Gives S F H (f (fb x xs)) Q) : rBest S.K best [w] H Q := by
  have key : ∀ {a : Addr} {vs : List V}, w = V.ref a → (SqL S.K H a vs ∨ SqT S.K H a vs) → RepL S F ((x :: xs).map f) vs → rBest S.K best [w] H Q := by
    intro a vs e hs rl
    subst e
    have lay : ∀ l : List α, PyData.canLayAll0 (l.map PySem.W.Datum.toD) = true := by
      intro l
      induction l with
      | nil => simp [PyData.canLayAll0]
      | cons y l ih => simp [PyData.canLayAll0, hl y, ih]
    refine ⟨a, vs, PySem.W.Datum.toD x, xs.map PySem.W.Datum.toD, rfl, hs, DpAll.up ex _ (dps_of _ rl (toPsM hf (x :: xs))), PySem.W.alikeAll_datum (x :: xs), lay (x :: xs), Nat.le_trans (PySem.W.depthAll_map (x :: xs)) hdp, fun i v hv he => ?_⟩
    have hlen := repL_len rl
    obtain ⟨hi, _⟩ := List.getElem?_eq_some_iff.mp hv
    have hi : i < (x :: xs).length := by rw [← hlen] at hi; simpa using hi
    have e0 : (PySem.W.Datum.toD x :: xs.map PySem.W.Datum.toD : List PyData).getD i PyData.none = PySem.W.Datum.toD (x :: xs)[i] := by
      have : (PySem.W.Datum.toD x :: xs.map PySem.W.Datum.toD : List PyData) = (x :: xs).map PySem.W.Datum.toD := rfl
      rw [this, List.getD_eq_getElem?_getD, List.getElem?_map, List.getElem?_eq_getElem hi]
      rfl
    rw [e0, hb] at he
    have e1 := inj _ _ he
    obtain ⟨v', ev, rv⟩ := repL_get (i := i) (x := f (x :: xs)[i]) rl (by rw [List.getElem?_map, List.getElem?_eq_getElem hi]; rfl)
    rw [hv] at ev
    cases ev
    rw [e1] at rv
    exact g.now ex rv
  rcases items_cases hi with rfl | rfl | rfl
  · obtain ⟨a, vs, e, h1, h2⟩ := hw
    cases hi
    exact key e (.inl (Evl.sq_of h1)) h2
  · obtain ⟨a, vs, e, h1, h2⟩ := repD_tup (S := S) (F := F) hw
    cases hi
    exact key e (.inr (Evl.ex_t ex h1)) h2
  · obtain ⟨a, vs, e, h1, h2⟩ := repD_frl (S := S) (F := F) hw
    cases hi
    exact key e (.inl (Evl.ex_l ex h1)) h2
theorem bestD_cases {fi : Int → List Int → Int} {fp : Int × Int → List (Int × Int) → Int × Int} {xs : List D} {z : D} (h : bestD fi fp xs = some z) :
    (∃ n ns, xs = (n :: ns).map D.int ∧ z = .int (fi n ns)) ∨ ∃ p ps, xs = (p :: ps).map ptD ∧ z = ptD (fp p ps) := by
  unfold bestD at h
  split at h
  · rename_i n ns e
    exact .inl ⟨n, ns, intsOf_eq e, (Option.some.inj h).symm⟩
  · split at h
    · rename_i p ps e
      exact .inr ⟨p, ps, ptsOf_eq e, (Option.some.inj h).symm⟩
    · cases h
theorem lay_int (i : Int) : (PySem.W.Datum.toD i : PyData).canLay0 = true := by show (PyData.int i).canLay0 = true; simp [PyData.canLay0]
theorem lay_pt (p : Int × Int) : (PySem.W.Datum.toD p : PyData).canLay0 = true := by show (PyData.tuple [.int p.1, .int p.2]).canLay0 = true; simp [PyData.canLay0, PyData.canLayAll0]
theorem inj_int (i j : Int) (h : (PySem.W.Datum.toD i : PyData) = PySem.W.Datum.toD j) : i = j := by
  have h : PyData.int i = PyData.int j := h
  cases h; rfl
theorem inj_pt (p q : Int × Int) (h : (PySem.W.Datum.toD p : PyData) = PySem.W.Datum.toD q) : p = q := by
  have h : PyData.tuple [.int p.1, .int p.2] = PyData.tuple [.int q.1, .int q.2] := h
  simp only [PyData.tuple.injEq, List.cons.injEq, PyData.int.injEq, and_true] at h
  exact Prod.ext h.1 h.2
theorem many_minl : Many0 S .minl (rBest S.K PySem.W.minD) := by
  intro F H ws xs z Q ex hx h g
  obtain ⟨x, rfl⟩ := opD_one (opD_1 (by simp)) h
  obtain ⟨w, rfl, hw⟩ := repAs_one hx
  have h : (items x).bind (bestD minI minP) = some z := h
  cases q : items x with
  | none => rw [q] at h; cases h
  | some ys =>
    rw [q] at h
    rcases bestD_cases (show bestD minI minP ys = some z from h) with ⟨n, ns, rfl, rfl⟩ | ⟨p, ps, rfl, rfl⟩
    · exact best_row (f := D.int) (fb := minI) (fun i => toP_int i) inj_int (fun x xs => PySem.W.minD_map x xs) lay_int (by decide) ex hw q g
    · exact best_row (f := ptD) (fb := minP) (fun i => toP_ptD i) inj_pt (fun x xs => PySem.W.minD_map x xs) lay_pt (by decide) ex hw q g
theorem many_maxl : Many0 S .maxl (rBest S.K PySem.W.maxD) := by
  intro F H ws xs z Q ex hx h g
  obtain ⟨x, rfl⟩ := opD_one (opD_1 (by simp)) h
  obtain ⟨w, rfl, hw⟩ := repAs_one hx
  have h : (items x).bind (bestD maxI maxP) = some z := h
  cases q : items x with
  | none => rw [q] at h; cases h
  | some ys =>
    rw [q] at h
    rcases bestD_cases (show bestD maxI maxP ys = some z from h) with ⟨n, ns, rfl, rfl⟩ | ⟨p, ps, rfl, rfl⟩
    · exact best_row (f := D.int) (fb := maxI) (fun i => toP_int i) inj_int (fun x xs => PySem.W.maxD_map x xs) lay_int (by decide) ex hw q g
    · exact best_row (f := ptD) (fb := maxP) (fun i => toP_ptD i) inj_pt (fun x xs => PySem.W.maxD_map x xs) lay_pt (by decide) ex hw q g

/-! ### p < q of points -/
theorem isPt_holds {pins : List (Addr × Obj)} {σ : Sl} {H : Hp} {s : Shared} {x : V} {u : Value} {p : Int × Int} (I : Inv X pins σ H s) (h : isPt X.K H x p) (r : RelV x u) : PySem.W.Holds s.heap u p := Dp.reads I _ x u h r
theorem op_ltP (hu : X.A.units + 200 < cLine) : OpR X (compareOp .Lt) (rLtP X.K false) := by
  intro pins s σ H x y v u Q I rx ry h
  obtain ⟨p, q, h1, h2, k⟩ := h
  exact PySem.W.lt_datum (isPt_holds I h1 rx) (isPt_holds I h2 ry) (by show X.A.units + 1 < cLine; omega) ⟨.bl _, H, I, rfl, k⟩
theorem op_gtP (hu : X.A.units + 200 < cLine) : OpR X (compareOp .Gt) (rLtP X.K true) := by
  intro pins s σ H x y v u Q I rx ry h
  obtain ⟨p, q, h1, h2, k⟩ := h
  exact PySem.W.gt_datum (isPt_holds I h1 rx) (isPt_holds I h2 ry) (by show X.A.units + 1 < cLine; omega) ⟨.bl _, H, I, rfl, k⟩

/-! ### tuple(x) -/
def rTupC (K : PySem.W.Frag) : List V → Hp → VK → Prop := fun xs H Q => ∃ x, xs = [x] ∧ kTup K x H Q
theorem call_tupleC : CallR X (.type "tuple") (rTupC X.K) := by
  intro pins s σ H xs us Q I r h
  obtain ⟨x, rfl, k⟩ := h
  obtain ⟨u, rfl, rx⟩ := vals1 r
  exact rl_tuple pins s σ H x u Q I rx k
theorem many_tuple : Many0 S .tuple (rTupC S.K) := by
  intro F H ws xs z Q ex hx h g
  obtain ⟨x, rfl⟩ := opD_one (opD_1 (by simp)) h
  obtain ⟨w, rfl, hw⟩ := repAs_one hx
  refine ⟨w, rfl, ?_⟩
  cases x with
  | lst xs =>
    cases h
    obtain ⟨a, vs, rfl, h1, h2⟩ := hw
    refine .inl ⟨a, vs, rfl, Evl.sq_of h1, fun p hp => ?_⟩
    have gr := Grow.one ex (.tup vs) hp
    exact g _ _ _ gr (rep_tup (Evl.st_of upd_same) (repL_ex gr.f _ h2))
  | frl xs =>
    cases h
    obtain ⟨a, vs, rfl, h1, h2⟩ := repD_frl (S := S) (F := F) hw
    refine .inl ⟨a, vs, rfl, Evl.ex_l ex h1, fun p hp => ?_⟩
    have gr := Grow.one ex (.tup vs) hp
    exact g _ _ _ gr (rep_tup (Evl.st_of upd_same) (repL_ex gr.f _ h2))
  | tup xs =>
    cases h
    obtain ⟨a, vs, rfl, h1, h2⟩ := repD_tup (S := S) (F := F) hw
    exact .inr ⟨a, vs, rfl, Evl.ex_t ex h1, g.now ex (rep_tup h1 h2)⟩
  | _ => cases h
/-- tuple(x), known to the object -/
def kTupF (K : PySem.W.Frag) (x : V) (H : Hp) (Q : VK) : Prop :=
  (∃ p xs, x = .ref p ∧ SqL K H p xs ∧ ∀ q o, H q = none → o.dict = none → Q (.ref q) (upd H q (.frz o (.tup xs)))) ∨ (∃ p xs, x = .ref p ∧ SqT K H p xs ∧ Q (.ref p) H)
theorem rl_tupleF (pins : List (Addr × Obj)) (s : Shared) (σ : Sl) (H : Hp) (x : V) (u : Value) (Q : VK) (I : Inv X pins σ H s) (ru : RelV x u) (w : kTupF X.K x H Q) : wpAny (model X.prog X.w) X.A (call (.type "tuple") [u]) (EP X pins σ Q) X.xe s := by
  rcases w with ⟨a, vs, rfl, sq, k⟩ | ⟨a, vs, rfl, sq, k⟩
  · cases (show u = Value.ref a from ru)
    obtain ⟨us, r, pl, small⟩ := I.list sq
    have room : us.toArray.size ≤ sizeLine := by rw [List.size_toArray, ← r.length]; exact small
    refine call_tuple_list pl.isList (fun h1 old => ?_) room
    have J : Inv X pins σ H { s with heap := h1 } := I.kept (t' := s.toks) old
    have J2 : Inv X pins σ (upd H h1.objs.size (.frz { cls := .type "tuple", data := .seq us.toArray } (.tup vs))) { s with heap := h1.push { cls := .type "tuple", data := .seq us.toArray } } :=
      J.laid (t' := s.toks) (fun b o e => Heap.get?_push_of_some _ e) (Nat.le_refl _) (show ObjOk X.prog X.w _ _ _ (.frz _ (.tup vs)) from ⟨Heap.get?_push_size _ rfl, small, us, r, IsTup.new _ _⟩)
    exact ⟨.ref h1.objs.size, _, J2, rfl, k _ _ (J.hok.fresh (Nat.le_refl _)) rfl⟩
  · cases (show u = Value.ref a from ru)
    obtain ⟨us, r, pl, small⟩ := I.tuple sq
    exact call_tuple_tup pl ⟨V.ref a, H, I, rfl, k⟩
def rTupF (K : PySem.W.Frag) : List V → Hp → VK → Prop := fun xs H Q => ∃ x, xs = [x] ∧ kTupF K x H Q
theorem call_tupleF : CallR X (.type "tuple") (rTupF X.K) := by
  intro pins s σ H xs us Q I r h
  obtain ⟨x, rfl, k⟩ := h
  obtain ⟨u, rfl, rx⟩ := vals1 r
  exact rl_tupleF pins s σ H x u Q I rx k
theorem tupAt_eq {v : Val} {M : Mem} {xs : List D} (h : tupAt v M = some xs) : ∃ n, v = .rf n ∧ M[n]? = some (.tup xs) := by
  cases v with
  | d x => cases h
  | rf n =>
    have h : (match M[n]? with | some (.tup xs) => some xs | _ => none) = some xs := h
    cases q : M[n]? with
    | none => rw [q] at h; cases h
    | some c =>
      rw [q] at h
      cases c with
      | tup ys => cases h; exact ⟨n, rfl, q⟩
      | _ => cases h
theorem rE_mkt {e : IE} {σ : Sl} {H : Hp} {Q : VK} (q : rE S C W (.mkt e) σ H Q) : rE S C W e σ H fun x H1 => ∃ y, [x] = [y] ∧ kTupF S.K y H1 Q := by
  obtain ⟨μ, F, env, M, res, hM, hE, hd, hk⟩ := q
  unfold denE at hd
  refine rE_bnd hM hE hd hk fun μ1 F1 H1 v M1 w a1 m1 e1 r1 h1 k1 => ?_
  unfold runMkt at h1
  cases q1 : tupAt v M1 with
  | some xs =>
    simp only [q1] at h1
    cases h1
    obtain ⟨n, rfl, hn⟩ := tupAt_eq q1
    obtain ⟨hl, rfl⟩ := (show n < M1.length ∧ w = V.ref (μ1 n) from r1)
    obtain ⟨vs, o, c2, _, c3⟩ := m1.cell n _ hn
    exact ⟨_, rfl, .inr ⟨μ1 n, vs, rfl, Evl.ex_t m1.sub (.inl (.inr ⟨o, c2⟩)), k1 μ1 F1 H1 _ Aft.refl m1 r1⟩⟩
  | none =>
    simp only [q1] at h1
    have key : ∀ {a : Addr} {vs : List V} {xs : List D}, w = V.ref a → SqL S.K H1 a vs → RepL S F1 xs vs → some (R.ok (Val.rf M1.length) (M1 ++ [Cell.tup xs])) = some res → ∃ y, [w] = [y] ∧ kTupF S.K y H1 Q := by
      intro a vs xs ew hs rl h
      cases h
      refine ⟨_, rfl, .inl ⟨a, vs, ew, hs, fun p o hp ho => ?_⟩⟩
      obtain ⟨m3, a3⟩ := m1.cellNewF (o := .frz o (.tup vs)) (c := .tup xs) hp ⟨vs, o, upd_same, ho, repL_ex (Grow.one m1.sub (.frz o (.tup vs)) hp).f _ rl⟩
      refine k1 _ _ _ (.ref p) a3 m3 ⟨by simp, ?_⟩
      show V.ref p = V.ref (if M1.length = M1.length then p else μ1 M1.length)
      rw [if_pos rfl]
    cases q2 : v.see M1 with
    | none => rw [q2] at h1; cases h1
    | some y =>
      rw [q2] at h1
      have rx := see_ok m1 r1 q2
      cases y with
      | lst xs =>
        obtain ⟨a, vs, ew, h2, h3⟩ := rx
        exact key ew (Evl.sq_of h2) h3 h1
      | frl xs =>
        obtain ⟨a, vs, ew, h2, h3⟩ := repD_frl (S := S) (F := F1) rx
        exact key ew (Evl.ex_l m1.sub h2) h3 h1
      | _ => cases h1
end
section
variable {S : Sta} {C : Orc} {W : WX} {X : Cx}
/-! ### t.index(y) -/
def rIndexT (K : PySem.W.Frag) (x y : V) (H : Hp) (Q : VK) : Prop := ∃ (a : Addr) (o : Obj) (vs : List V) (d : PyData) (ds : List PyData) (j : Nat), x = V.ref a ∧ H a = some (.frz o (.tup vs)) ∧ DpAll K H vs ds ∧ Dp K H y d ∧
  SeqAt.shaped (.list ds) = true ∧ SeqAt.shaped d = true ∧ (ds.findIdx? fun z => PyData.eqv z d) = some j ∧ Q (.int (j : Nat)) H
theorem mt_indexT (hu : X.A.units + 200 < cLine) {pins : List (Addr × Obj)} {s : Shared} {σ : Sl} {H : Hp} {x y : V} {v u : Value} {Q : VK} (I : Inv X pins σ H s) (rx : RelV x v) (ry : RelV y u) (h : rIndexT X.K x y H Q) :
    wpAny (model X.prog X.w) X.A (call (.builtin "tuple.index") [v, u]) (EP X pins σ Q) X.xe s := by
  obtain ⟨a, o, vs, d, ds, j, rfl, ha, hv, hy, sl, sd, hj, q⟩ := h
  obtain rfl : v = Value.ref a := rx
  obtain ⟨bs, rb⟩ := Dp.reads I d y u hy ry
  have lay : PyData.canLayAll0 ds = true := SeqAt.canLay_of_shaped sl
  have room : X.A.units + 1 + min (PyData.depthAll ds) d.depth < cLine := room_in_shaped sd (by omega)
  obtain ⟨g0, hlen, us, rv, ht⟩ := (show ObjOk X.prog X.w H s.heap a (.frz o (.tup vs)) from I.hok a _ ha)
  obtain ⟨⟨cls, dd, data, sls⟩, ho, hc, n, hdt⟩ := ht
  simp only at hc hdt
  subst hc hdt
  obtain ⟨as, ra⟩ := Dp.readsAll I ds _ us hv rv
  have el : us.length = ds.length := SeqAt.ReadsAll.length ds us as ra
  have em : us.map (SeqAt.readOf s.heap) = ds := SeqAt.readsAll_map ds us as lay ra
  obtain ⟨jd, hz, hno⟩ := List.findIdx?_eq_some_iff_getElem.mp hj
  have jl : j < us.length := by omega
  have hj : j < us.toArray.size := by simpa using jl
  have rd : ∀ (m : Nat) (m1 : m < us.toArray.size) (y1 : PyData), ds[m]? = some y1 → SeqAt.readOf s.heap us.toArray[m] = y1 := by
    intro m m1 y1 ez
    have ml : m < us.length := by simpa using m1
    rw [← em, List.getElem?_map, List.getElem?_eq_getElem ml] at ez
    have e1 : SeqAt.readOf s.heap us[m] = y1 := Option.some.inj (show some (SeqAt.readOf s.heap us[m]) = some y1 from ez)
    simpa using e1
  refine call_meets PySem.F.slot_tuple_index ⟨_, ho, rfl⟩ PySem.F.entry_tuple_index (PySem.F.args_tuple_index_2 _ _)
    (TI.tuple_indexAt a us.toArray n dd sls u (fun u => PyData.eqv (SeqAt.readOf s.heap u) d) j hj ?_ ?_) ⟨ho, SeqAt.items_eqAt (vs := us.toArray) (show ReadsAll s.heap us.toArray.toList ds as from ra) rb lay (SeqAt.canLay_of_shaped sd) room, ?_⟩
  · show PyData.eqv (SeqAt.readOf s.heap us.toArray[j]) d = true
    rw [rd j hj _ (List.getElem?_eq_getElem jd)]
    exact hz
  · intro m m1 m2
    have md : m < ds.length := by omega
    have q1 := rd m m1 _ (List.getElem?_eq_getElem md)
    simp only [q1]
    simpa using hno m m2
  · exact ⟨.int (j : Nat), H, I.tok _, ⟨_, rfl⟩, q⟩
theorem pe_tidx (hu : X.A.units + 200 < cLine) {o e : Expr} {to te : TE} {apos cpos : Pos} (ho : PE X o to) (he : PE X e te) (hs : ∀ y p, e ≠ .Starred y p) (hbase : attributeBase o "index" X.env (eval o X.env) = eval o X.env) (hline : (apos.endLine == cpos.line) = true) :
    PE X (.Call (.Attribute o "index" apos) [e] [] cpos) (fun σ H Q => to σ H fun x H1 => (∃ a ob vs, x = V.ref a ∧ H1 a = some (.frz ob (.tup vs)) ∧ ob.dict = none) ∧ te σ H1 fun y H2 => rIndexT X.K x y H2 Q) := by
  refine ⟨fun pins s σ H Q I h => ?_⟩
  have hst := star_no (env := X.env) (es := []) hs
  have hfew : ((backTo cpos (starEach [e] X.env)).all (fun x => !x.1) && (backToKw cpos (keywordEach [] X.env)).all (fun x => x.1.isSome)
      && decide ([e].length + ([] : List Keyword).length + (if ([] : List Keyword).isEmpty then 0 else 1) < 30)) = true := by
    rw [hst]
    rfl
  refine wpAny_Call_method_late hbase hfew hline rfl (thn (ho.run pins s σ H _ I h) fun v s1 ⟨x, H1, I1, r1, ⟨a, ob, vs, ex, ha, hd⟩, q1⟩ => ?_)
  subst ex
  obtain rfl : v = Value.ref a := r1
  obtain ⟨g0, _, its, rv, p⟩ := (show ObjOk X.prog X.w H1 s1.heap a (.frz ob (.tup vs)) from I1.hok a _ ha)
  refine ⟨"tuple", "tuple.index", PySem.F.plainAttrs_tuple, PySem.F.slot_tuple_index, PySem.F.type_tuple_index, p.typeIs, fun b e => ⟨ob, by cases e; exact g0, hd⟩, ?_⟩
  have hA := (pa_cons he pa_nil hst).run cpos pins s1 σ H1 (fun xs H2 => match xs with
    | [y] => rIndexT X.K (.ref a) y H2 Q
    | _ => False) I1 q1
  rw [hst] at hA ⊢
  refine Calls.callWith_builtin (by rfl) (Calls.evalArgs_plain ?_)
  refine thn hA fun us s2 ⟨vs, H2, I2, r2, q2⟩ => ?_
  cases vs with
  | nil => exact False.elim q2
  | cons y vs =>
    cases vs with
    | cons _ _ => exact False.elim q2
    | nil =>
      obtain ⟨u, rfl, ru⟩ := vals1 r2
      exact mt_indexT hu I2 (x := V.ref a) rfl ru q2
theorem indexD_eq {xs : List D} {y z : D} (h : indexD xs y = some z) : ∃ ds d j, toPs xs = some ds ∧ y.toP = some d ∧ SeqAt.shaped (.list ds) = true ∧ SeqAt.shaped d = true ∧ (ds.findIdx? fun z => PyData.eqv z d) = some j ∧ z = .int (j : Nat) := by
  unfold indexD at h
  cases e1 : toPs xs with
  | none => simp only [e1] at h; cases h
  | some ds =>
    cases e2 : y.toP with
    | none => simp only [e1, e2] at h; cases h
    | some d =>
      simp only [e1, e2] at h
      split at h
      · rename_i sh
        cases e3 : ds.findIdx? fun z => PyData.eqv z d with
        | none => rw [e3] at h; cases h
        | some j => rw [e3] at h; cases h; exact ⟨ds, d, j, rfl, rfl, sh.1, sh.2, e3, rfl⟩
      · cases h
theorem rE_idx {o e : IE} {σ : Sl} {H : Hp} {Q : VK} (q : rE S C W (.idx o e) σ H Q) :
    rE S C W o σ H fun x H1 => (∃ a ob vs, x = V.ref a ∧ H1 a = some (.frz ob (.tup vs)) ∧ ob.dict = none) ∧ rE S C W e σ H1 fun y H2 => rIndexT S.K x y H2 Q := by
  obtain ⟨μ, F, env, M, res, hM, hE, hd, hk⟩ := q
  unfold denE at hd
  refine rE_bnd hM hE hd hk fun μ1 F1 H1 v M1 w a1 m1 e1 r1 h1 k1 => ?_
  cases q1 : tupAt v M1 with
  | none => rw [q1] at h1; cases h1
  | some xs =>
    simp only [q1] at h1
    obtain ⟨n, rfl, hn⟩ := tupAt_eq q1
    obtain ⟨hl, rfl⟩ := (show n < M1.length ∧ w = V.ref (μ1 n) from r1)
    obtain ⟨vs, ob, c2, cd, c3⟩ := m1.cell n _ hn
    refine ⟨⟨μ1 n, ob, vs, rfl, m1.sub _ _ c2, cd⟩, ?_⟩
    refine rE_bnd m1 e1 h1 k1 fun μ2 F2 H2 u M2 w2 a2 m2 e2 r2 h2 k2 => ?_
    cases q2 : u.see M2 with
    | none => rw [q2] at h2; cases h2
    | some y =>
      simp only [q2] at h2
      cases q3 : indexD xs y with
      | none => rw [q3] at h2; cases h2
      | some z =>
        rw [q3] at h2
        cases h2
        obtain ⟨ds, d, j, t1, t2, s1, s2, t3, rfl⟩ := indexD_eq q3
        exact ⟨μ1 n, ob, vs, d, ds, j, rfl, m2.sub _ _ (a2.f _ _ c2), DpAll.up m2.sub _ (dps_of xs (repL_ex a2.f _ c3) t1), dpA_of m2.sub (see_ok m2 r2 q2) t2, s1, s2, t3, (gives_of m2 k2).now m2.sub (rep_int (S := S) (F := F2))⟩

/-! ### t[lo:hi:-1] -/
theorem places_le (n : Nat) (lo hi : Option Int) : Builtin.Slice.slicePlaces (Builtin.Slice.sliceAdjust lo hi (-1) n).1 (Builtin.Slice.sliceAdjust lo hi (-1) n).2 (-1) ≤ n := by
  have key : ∀ a b : Int, a ≤ (n : Int) - 1 → -1 ≤ b → Builtin.Slice.slicePlaces a b (-1) ≤ n := by
    intro a b h1 h2
    unfold Builtin.Slice.slicePlaces
    rw [if_neg (by omega)]
    split
    · have e : (a - b - 1) / (- (-1 : Int)) = a - b - 1 := by simp
      rw [e]
      omega
    · simp
  apply key
  · unfold Builtin.Slice.sliceAdjust
    simp only
    cases lo with
    | none => simp
    | some v =>
      simp only
      split <;> simp <;> omega
  · unfold Builtin.Slice.sliceAdjust
    simp only
    cases hi with
    | none => simp
    | some v =>
      simp only
      split <;> simp <;> omega
theorem rcut_len {α : Type} (xs : List α) (lo hi : Option Int) : (rcut xs lo hi).length ≤ xs.length := by
  unfold rcut
  refine Nat.le_trans (List.length_filterMap_le _ _) ?_
  unfold rpos
  rw [List.length_map, List.length_range]
  exact places_le _ _ _
theorem vals_get : ∀ {vs : List V} {us : List Value}, Vals vs us → ∀ i : Nat, (vs[i]? = none ∧ us[i]? = none) ∨ ∃ v u, vs[i]? = some v ∧ us[i]? = some u ∧ RelV v u
  | [], _, .nil, i => .inl ⟨by simp, by simp⟩
  | v :: vs, _, @Paired.cons _ _ _ _ w _ _ r rs, 0 => .inr ⟨v, w, rfl, rfl, r⟩
  | v :: vs, _, .cons r rs, i + 1 => by simpa using vals_get rs i
theorem pick_vals {vs : List V} {us : List Value} (r : Vals vs us) : ∀ l : List Nat, Vals (l.filterMap (vs[·]?)) (l.filterMap (us[·]?))
  | [] => .nil
  | i :: l => by
    rcases vals_get r i with ⟨h1, h2⟩ | ⟨v, u, h1, h2, h3⟩
    · rw [List.filterMap_cons_none h1, List.filterMap_cons_none h2]
      exact pick_vals r l
    · rw [List.filterMap_cons_some h1, List.filterMap_cons_some h2]
      exact .cons h3 (pick_vals r l)
theorem pick_rep {F : Hp} {xs : List D} {vs : List V} (r : RepL S F xs vs) : ∀ l : List Nat, RepL S F (l.filterMap (xs[·]?)) (l.filterMap (vs[·]?))
  | [] => repL_emp
  | i :: l => by
    cases h : xs[i]? with
    | none =>
      have h2 : vs[i]? = none := by
        rw [List.getElem?_eq_none_iff] at h ⊢
        rw [← repL_len r]
        exact h
      rw [List.filterMap_cons_none h, List.filterMap_cons_none h2]
      exact pick_rep r l
    | some x =>
      obtain ⟨v, h2, h3⟩ := repL_get r h
      rw [List.filterMap_cons_some h, List.filterMap_cons_some h2]
      exact repL_mk h3 (pick_rep r l)
section
variable {prog : Program} {w : World} {A : Around} {E : Value → Shared → Prop} {s : Shared}
theorem applied_back {sl : Addr} {vl vu vs : Value} {lo hi : Option Int} {n : Nat} {Q : Int × Int × Nat → Shared → Prop} (hs : s.heap.IsSliceOf sl vl vu vs) (pl : IsPart vl lo) (pu : IsPart vu hi) (ps : IsPart vs (some (-1)))
    (h : Q ((Builtin.Slice.sliceAdjust lo hi (-1) n).1, -1, Builtin.Slice.slicePlaces (Builtin.Slice.sliceAdjust lo hi (-1) n).1 (Builtin.Slice.sliceAdjust lo hi (-1) n).2 (-1)) s) :
    wpAny (model prog w) A (Builtin.Slice.sliceApplied (.ref sl) (pure (n : Int))) Q E s := by
  obtain ⟨ob, eo, ec, ed⟩ := id hs
  unfold Builtin.Slice.sliceApplied Builtin.Slice.sliceFields
  refine wpAny_bind (wpAny_bind (wpAny_field eo ed (x := vl) rfl (wpAny_bind (wpAny_field eo ed (x := vu) rfl (wpAny_bind (wpAny_field eo ed (x := vs) rfl (wpAny_pure ?_)))))))
  refine wpAny_bind (HT.slicePart_ ps ?_)
  show wpAny _ _ (if ((-1 : Int) == 0) = true then _ else _) _ _ s
  rw [if_neg (by decide)]
  refine wpAny_bind (HT.slicePart_ pl (wpAny_bind (HT.slicePart_ pu (wpAny_bind (wpAny_pure ?_)))))
  exact wpAny_pure h
theorem get_back {t sl : Addr} {items : List Value} {vl vu vs : Value} {lo hi : Option Int} {Q : Value → Shared → Prop} (ht : IsTup s.heap t items.toArray) (hs : s.heap.IsSliceOf sl vl vu vs) (pl : IsPart vl lo) (pu : IsPart vu hi) (ps : IsPart vs (some (-1)))
    (h : Q (.ref s.heap.objs.size) { s with heap := s.heap.push { cls := .type "tuple", data := .seq (rcut items lo hi).toArray } }) (hsz : items.length ≤ sizeLine) : wpAny (model prog w) A (getItem (.ref t) (.ref sl)) Q E s := by
  have fits : sizeOk (.seq (rcut items lo hi).toArray) := by
    show (rcut items lo hi).toArray.size ≤ sizeLine
    rw [List.size_toArray]
    exact Nat.le_trans (rcut_len _ _ _) hsz
  obtain ⟨ob, eo, ec, -⟩ := id hs
  have ty : s.TypeIs (.ref sl) "slice" := ⟨ob, eo, ec⟩
  unfold getItem
  with_reducible refine wpAny_holding (wpAny_bind (wpAny_sequenceKey ht.typeIs (by decide) ?_))
  refine wpAny_bind (wpAny_callSpecial?_slot (name := Str.ofString "__getitem__") ht.typeIs PyProof.Rows.slot_tuple_getitem (wpAny_call_entry PyProof.Rows.slot_tuple_getitem ht.typeIs entry_tuple_getitem ?_ (args_tuple_getitem _ _)))
  show wpAny _ _ (Builtin.Tuple.tupleItemsOf (.ref t) >>= _) _ _ s
  refine wpAny_bind (tupleItemsOf_ ht (wpAny_bind (wpAny_typeOf ty ?_)))
  rw [if_pos (by decide)]
  have hl : items.toArray.size = items.length := by simp
  rw [hl]
  refine wpAny_bind (applied_back hs pl pu ps ?_)
  have hno : ∀ a b : Bool, ¬ ((a && (-1 : Int) == 1 && b) = true) := by
    intro a b q
    rw [Bool.and_eq_true, Bool.and_eq_true] at q
    exact absurd q.1.2 (by decide)
  show wpAny _ _ (if ((Builtin.Slice.sliceAdjust lo hi (-1) items.length).1 == 0 && (-1 : Int) == 1 && Builtin.Slice.slicePlaces (Builtin.Slice.sliceAdjust lo hi (-1) items.length).1 (Builtin.Slice.sliceAdjust lo hi (-1) items.length).2 (-1) == items.length) = true then _ else _) _ _ s
  rw [if_neg (hno _ _)]
  have e : ((List.range (Builtin.Slice.slicePlaces (Builtin.Slice.sliceAdjust lo hi (-1) items.length).1 (Builtin.Slice.sliceAdjust lo hi (-1) items.length).2 (-1))).filterMap fun (k : Nat) => items.toArray[((Builtin.Slice.sliceAdjust lo hi (-1) items.length).1 + (k : Int) * (-1)).toNat]?) = rcut items lo hi := by
    unfold rcut rpos
    rw [List.filterMap_map]
    congr 1
    funext k
    simp
  rw [e]
  refine wpAny_bind (m := Builtin.Tuple.tupleExact _) (wpAny_newObj_type (wpAny_pure ⟨_, rfl, wpAny_pure h⟩) fits)
end
def rBack (K : PySem.W.Frag) : V → Option Int → Option Int → Hp → VK → Prop := fun x lo hi H Q => ∃ a xs, x = .ref a ∧ SqT K H a xs ∧ ∀ p, H p = none → Q (.ref p) (upd H p (.tup (rcut xs lo hi)))
theorem pe_back {e : Expr} {te : TE} {lo hi : Option Expr} {tl th : TO} {k : Nat} {p1 p2 p3 pos : Pos} (he : PE X e te) (hl : PO X lo tl) (hh : PO X hi th) :
    PE X (.Subscript e (.Slice lo hi (some (.UnaryOp .USub (.Constant (.int 1) k p1) p2)) p3) pos) (tSl (rBack X.K) te tl th) := by
  refine ⟨fun pins s σ H Q I h => ?_⟩
  refine Subscript_ (thn (he.run pins s σ H _ I h) fun v s1 ⟨x, H1, I1, r1, q1⟩ => ?_)
  have hst : PO X (some (.UnaryOp .USub (.Constant (.int 1) k p1) p2)) (tPart (tUn (rU fun i => .int (-i)) (tC (.int 1)))) := po_some (pe_un un_neg pe_int)
  refine wpAny_Slice (thn (hl.run pins s1 σ H1 _ I1 q1) fun vl s2 ⟨l, H2, I2, pl, q2⟩ => thn (hh.run pins s2 σ H2 _ I2 q2) fun vu s3 ⟨u, H3, I3, pu, q3⟩ => ?_)
  refine thn (hst.run pins s3 σ H3 (fun o H4 => o = some (-1) ∧ H4 = H3) I3 ⟨1, rfl, -1, rfl, rfl, rfl⟩) fun vs s4 ⟨o, H4, I4, ps, eo, e4⟩ => ?_
  subst eo e4
  obtain ⟨a, xs, ex, hx, q⟩ := q3
  subst ex
  cases r1
  have I5 : Inv X pins σ H4 { s4 with heap := s4.heap.push { cls := .type "slice", data := .fields #[vl, vu, vs] } } := I4.kept (t' := s4.toks) fun b ob q => Heap.get?_push_of_some _ q
  obtain ⟨its, r, ht, hz⟩ := I5.tuple hx
  have hlen := r.length
  show wpAny (model X.prog X.w) X.A (subscriptTail e (.Slice lo hi (some (.UnaryOp .USub (.Constant (.int 1) k p1) p2)) p3) (.ref a) (.ref s4.heap.objs.size)) (EP X pins σ Q) X.xe { s4 with heap := s4.heap.push { cls := .type "slice", data := .fields #[vl, vu, vs] } }
  refine tail_any (ops := [.ref a, .ref s4.heap.objs.size]) ht.typeIs (PyProof.Rows.slot_tuple_getitem.lookup) ?_ (by with_unfolding_all rfl)
  refine get_back ht (Heap.IsSliceOf.new _ vl vu vs) pl pu ps ?_ (by omega)
  refine ⟨.ref _, _, I5.laid (t' := s4.toks) (o := .tup (rcut xs l u)) (fun b ob q => Heap.get?_push_of_some _ q) (Nat.le_refl _) ?_, rfl, q _ (I5.hok.fresh (Nat.le_refl _))⟩
  refine ⟨Nat.le_trans (rcut_len _ _ _) hz, _, ?_, IsTup.new _ _⟩
  unfold rcut
  rw [hlen]
  exact pick_vals r _
theorem rslice_gives {F H : Hp} (ex : Ex F H) {x z : D} {v : V} {lo hi : Option Int} {Q : VK} (hx : RepA S F H x v) (h : rsliceD x lo hi = some z) (g : Gives S F H z Q) : rBack S.K v lo hi H Q := by
  cases x with
  | tup xs =>
    cases h
    obtain ⟨a, vs, rfl, h1, h2⟩ := repD_tup (S := S) (F := F) hx
    refine ⟨a, vs, rfl, Evl.ex_t ex h1, fun p hp => ?_⟩
    have gr := Grow.one ex (.tup (rcut vs lo hi)) hp
    refine g _ _ _ gr (rep_tup (Evl.st_of upd_same) (repL_ex gr.f _ ?_))
    unfold rcut
    rw [repL_len h2]
    exact pick_rep h2 _
  | _ => cases h
theorem rE_rslice {x : IE} {lo hi : Option IE} {σ : Sl} {H : Hp} {Q : VK} (q : rE S C W (.op (.rslice lo.isSome hi.isSome) (.cons x (partEs lo (partEs hi .nil)))) σ H Q) : tSl (rBack S.K) (rE S C W x) (tPartI S C W lo) (tPartI S C W hi) σ H Q := by
  obtain ⟨μ, F, env, M, res, hM, hE, hd, hk⟩ := q
  unfold denE at hd
  -- the arguments, one by one
  have args : ∀ (es : IEs) (k : List Val → Mem → Option (R Val)) (x : IE), (bnd (denEs C (.cons x es) env M) k) = bnd (denE C x env M) fun v M1 => bnd (denEs C es env M1) fun vs M2 => k (v :: vs) M2 := by
    intro es k x
    rw [denEs]
    cases denE C x env M with
    | none => rfl
    | some r =>
      cases r with
      | ex y M1 => rfl
      | ok v M1 =>
        simp only [bnd_ok]
        cases denEs C es env M1 with
        | none => rfl
        | some r2 => cases r2 <;> rfl
  have args2 : ∀ (es : IEs) (k : List Val → Mem → Option (R Val)) (x : IE) (M : Mem), (bnd (denEs C (.cons x es) env M) k) = bnd (denE C x env M) fun v M1 => bnd (denEs C es env M1) fun vs M2 => k (v :: vs) M2 := by
    intro es k x M
    rw [denEs]
    cases denE C x env M with
    | none => rfl
    | some r =>
      cases r with
      | ex y M1 => rfl
      | ok v M1 =>
        simp only [bnd_ok]
        cases denEs C es env M1 with
        | none => rfl
        | some r2 => cases r2 <;> rfl
  have nil : ∀ (k : List Val → Mem → Option (R Val)) (M : Mem), bnd (denEs C .nil env M) k = k [] M := fun k M => by rw [denEs]; rfl
  rw [args] at hd
  refine rE_bnd hM hE hd hk fun μ1 F1 H1 v M1 w a1 m1 e1 q1 h1 k1 => ?_
  -- a bound
  have bound : ∀ {μ : Nat → Addr} {F H : Hp} {M : Mem} {e : IE} {k : Val → Mem → Option (R Val)} {Q2 : Option Int → Hp → Prop}, MemR S μ F M H → EnvR S μ F M.length env σ → bnd (denE C (.anint e) env M) k = some res → KE S W μ F H M.length σ Q res →
      (∀ μ1 F1 H1 i M1, Aft μ F H M.length μ1 F1 H1 M1.length → MemR S μ1 F1 M1 H1 → EnvR S μ1 F1 M1.length env σ → k (.d (.int i)) M1 = some res → KE S W μ1 F1 H1 M1.length σ Q res → Q2 (some i) H1) → tPart (rE S C W e) σ H Q2 := by
    intro μ F H M e k Q2 hM hE hd hk next
    have hd : bnd (denE C e env M) (fun v M1 => match v with
      | .d (.int i) => k (.d (.int i)) M1
      | _ => none) = some res := by
      rw [← hd, den_anint]
      cases denE C e env M with
      | none => rfl
      | some r =>
        cases r with
        | ex y M1 => rfl
        | ok v M1 =>
          simp only [bnd_ok]
          cases v with
          | rf n => rfl
          | d y => cases y <;> rfl
    refine rE_bnd hM hE hd hk fun μ1 F1 H1 v M1 w a1 m1 e1 q1 h1 k1 => ?_
    cases v with
    | rf n => cases h1
    | d y =>
      cases y with
      | int i => exact ⟨i, repD_int (S := S) (F := F1) q1, next μ1 F1 H1 i M1 a1 m1 e1 h1 k1⟩
      | _ => cases h1
  cases lo with
  | none =>
    cases hi with
    | none =>
      have h1 : bnd (denEs C .nil env M1) (fun vs M2 => runOp (.rslice false false) (v :: vs) M2) = some res := h1
      rw [nil] at h1
      obtain ⟨xs, z, s1, s2, rfl⟩ := runOp_see rfl h1
      obtain ⟨d, rfl, sd⟩ := sees_one s1
      exact rslice_gives m1.sub (see_ok m1 q1 sd) s2 (gives_of m1 k1)
    | some b =>
      have h1 : bnd (denEs C (.cons (.anint b) .nil) env M1) (fun vs M2 => runOp (.rslice false true) (v :: vs) M2) = some res := h1
      rw [args2] at h1
      show tPart (rE S C W b) σ H1 fun u H3 => rBack S.K w none u H3 Q
      refine bound m1 e1 h1 k1 fun μ2 F2 H2 i M2 a2 m2 e2 h2 k2 => ?_
      rw [nil] at h2
      obtain ⟨xs, z, s1, s2, rfl⟩ := runOp_see rfl h2
      obtain ⟨d, e, rfl, sd, se⟩ := sees_two s1
      cases se
      exact rslice_gives m2.sub (see_ok m2 (q1.aft a2) sd) s2 (gives_of m2 k2)
  | some a =>
    cases hi with
    | none =>
      have h1 : bnd (denEs C (.cons (.anint a) .nil) env M1) (fun vs M2 => runOp (.rslice true false) (v :: vs) M2) = some res := h1
      rw [args2] at h1
      show tPart (rE S C W a) σ H1 fun l H2 => rBack S.K w l none H2 Q
      refine bound m1 e1 h1 k1 fun μ2 F2 H2 i M2 a2 m2 e2 h2 k2 => ?_
      rw [nil] at h2
      obtain ⟨xs, z, s1, s2, rfl⟩ := runOp_see rfl h2
      obtain ⟨d, e, rfl, sd, se⟩ := sees_two s1
      cases se
      exact rslice_gives m2.sub (see_ok m2 (q1.aft a2) sd) s2 (gives_of m2 k2)
    | some b =>
      have h1 : bnd (denEs C (.cons (.anint a) (.cons (.anint b) .nil)) env M1) (fun vs M2 => runOp (.rslice true true) (v :: vs) M2) = some res := h1
      rw [args2] at h1
      show tPart (rE S C W a) σ H1 fun l H2 => tPart (rE S C W b) σ H2 fun u H3 => rBack S.K w l u H3 Q
      refine bound m1 e1 h1 k1 fun μ2 F2 H2 i M2 a2 m2 e2 h2 k2 => ?_
      rw [args2] at h2
      refine bound m2 e2 h2 k2 fun μ3 F3 H3 j M3 a3 m3 e3 h3 k3 => ?_
      rw [nil] at h3
      obtain ⟨xs, z, s1, s2, rfl⟩ := runOp_see rfl h3
      obtain ⟨d, ys, rfl, sd, s1⟩ := sees_cons s1
      obtain ⟨e, g, rfl, se, sg⟩ := sees_two s1
      cases se
      cases sg
      exact rslice_gives m3.sub (see_ok m3 ((q1.aft a2).aft a3) sd) s2 (gives_of m3 k3)

/-! ### C.m(..), m a def -/
structure FMet (K : PySem.W.Frag) (C : Addr) (mc : Value) (m : Str) (g : Addr) : Prop where
  at_ : PySem.W.findCls K (.ref C) mc m = some (.val (.ref g))
  kp : PySem.W.keepIn K (.ref g) = true
theorem pe_gofm {CT : CXT} {k : Nat} {sp : Sp} {E : Sl → XK} {x m : Str} {e : Expr} {es : List Expr} {t : TA} {np apos pos : Pos} {C : Addr} {mc : Value} {pl : Sem Bool} {g : Addr} (F : GoR X.prog X.w X.K X.mg X.base CT k g sp) (hg : X.A.guards = some []) (hr : Room k X.A) (gl : Gl X x) (hm : X.mg x = some (.ref C)) (r : ClX.CRead X.K C mc) (c : FMet X.K C mc m g) (hx : ∀ σ, PassesAt CT X σ (E σ)) (ha : PA X (e :: es) t)
    (hd : (x == ("__debug__" : Str)) = false) (he : starEach (e :: es) X.env = (false, eval e X.env) :: starEach es X.env) (hp : (backTo pos (starEach es X.env)).any (·.1) = false) (ht : CallsAttr (.Name x np) m apos pos (e :: es) X.env pl) :
    PE X (.Call (.Attribute (.Name x np) m apos) (e :: es) [] pos) (fun σ H Q => t σ H fun vs H1 => sp vs H1 Q (E σ)) := by
  refine ⟨fun pins s σ H Q I h => ?_⟩
  refine PySem.W.methodCall_KW (pl := pl) (ld_glob I gl hm ?_ hd) ht
  refine PySem.W.method_cls I.kIn r.ga (PySem.W.cls_value I.kIn r.rd c.at_ (by rfl) ?_)
  have I2 := I.tok (s.toks + 1)
  exact PySem.W.callWith_K (first := []) (h₀ := X.base) I.ok.mod.kin c.kp (thn (ha.run pos pins _ σ H _ I2 h) fun us s2 ⟨vs, H2, I3, rv, q2⟩ => ⟨I3.kIn, run_go F hg hr (hx σ) I3 rv q2⟩) he hp

/-! ### a = b = e; what never runs -/
theorem rS_asg2 {i j : Nat} {e : IE} {D : Ends} {σ : Sl} {H : Hp} (q : rS S C W (.asg2 i j e) D σ H) : tAsg2 (rE S C W e) (gName i) (gName j) D σ H := by
  obtain ⟨μ, F, env, M, f, hM, hE, hd, hk⟩ := q
  unfold denS at hd
  refine rE_bndS hM hE hd hk fun μ1 F1 H1 v M1 w a m e1 r h1 k1 => ?_
  cases h1
  exact k1 μ1 F1 H1 _ Aft.refl m ((e1.set i r).set j r)
theorem ps_badI {st : Stmt} : PS X st (rS S C W .bad) := by
  refine ⟨fun pins s σ H D I q => ?_⟩
  obtain ⟨μ, F, env, M, f, hM, hE, hd, hk⟩ := q
  unfold denS at hd
  cases hd
end
end PyI

/-! PyI B: the sum of truth values. -/
namespace PyI
open PySem PySem.Spec PyProof.Rows L2
open Evl (Ex)
section
variable {prog : Program} {w : World} {A : Around} {R : Result → Shared → Prop} {I : Addr} {fp wr : List Addr} {G : Array GenState → Array GenState → Prop} {n : Nat} {P : Nat → Value → Prop} {St : Nat → Shared → Prop}
theorem wp_ite {α : Type} {M : Model} {B : Around} {c : Bool} {x y : Sem α} {Q : α → Shared → Prop} {E : Value → Shared → Prop} {s : Shared} (h1 : wpAny M B x Q E s) (h2 : wpAny M B y Q E s) : wpAny M B (if c = true then x else y) Q E s := by
  cases c with
  | true => rw [if_pos rfl]; exact h1
  | false => rw [if_neg (by decide)]; exact h2
theorem code_sumB (W : WalksS prog w A.in1 I fp wr G n P St) (bv : Nat → Bool) (is : ∀ i v, P i v → v = .bool (bv i)) (C : Addr) (out : C ∉ fp) :
    ∀ (left i : Nat) (s : Shared) (tk c : Nat) (mode : Int), (mode = 0 ∨ mode = 2) → n - i = left → i ≤ n → St i s → s.heap.get? C = some { cls := .type "list", dict := none, data := .seq #[.int (preSum (fun j => b01 (bv j)) i) tk] c, slots := #[] } →
    (∀ s1 t1, Moved (C :: wr) G s s1 → R (.ok (.ret (.int (preSum (fun j => b01 (bv j)) n) t1))) s1) → codeAny (model prog w) A (.builtin "sum.loop" ⟨[.ref I, .ref C, rawInt mode, rawInt 0], []⟩) R s := by
  have notW : C ∉ wr := fun z => out (W.sub _ z)
  have other : ∀ b, b ∈ fp → C ≠ b := fun b hb z => out (z ▸ hb)
  have wide : ∀ b ∈ wr, b ∈ C :: wr := fun b hb => List.mem_cons_of_mem _ hb
  intro left
  induction left with
  | zero =>
    intro i s tk c mode _ eq le st cell fin
    obtain rfl : i = n := by omega
    refine codeAny_builtin F.entry_sum_loop ?_
    rw [Around.under_plainId F.plain_sum_loop _]
    show wpAny _ A.in1 (seqItems? (.ref C) >>= _) _ _ s
    refine wpAny_bind (wpAny_seqItems cell rfl ?_)
    show wpAny _ A.in1 (tryCatch (pyNext (.ref I)) _ >>= _) _ _ s
    exact wpAny_bind (wpAny_tryCatch (W.done s _ _ st fun s1 mv => wpAny_pure (fin s1 tk (mv.mono wide))))
  | succ left ih =>
    intro i s tk c mode hm eq le st cell fin
    have lt : i < n := by omega
    refine codeAny_builtin F.entry_sum_loop ?_
    rw [Around.under_plainId F.plain_sum_loop _]
    show wpAny _ A.in1 (seqItems? (.ref C) >>= _) _ _ s
    refine wpAny_bind (wpAny_seqItems cell rfl ?_)
    show wpAny _ A.in1 (tryCatch (pyNext (.ref I)) _ >>= _) _ _ s
    refine wpAny_bind (wpAny_tryCatch (W.item i s _ _ lt st fun v s1 hv st1 mv => ?_))
    obtain rfl := is i v hv
    have cell1 := mv.heap C _ notW cell
    have go : ∀ (s2 : Shared) (m2 : Int) (t2 c2 : Nat), (m2 = 0 ∨ m2 = 2) → (∀ b o, C ≠ b → s1.heap.get? b = some o → s2.heap.get? b = some o) → Moved (C :: wr) G s s2 → St (i + 1) s2 → s2.heap.get? C = some { cls := .type "list", dict := none, data := .seq #[.int (preSum (fun j => b01 (bv j)) (i + 1)) t2] c2, slots := #[] } →
        codeAny (model prog w) A (.builtin "sum.loop" ⟨[.ref I, .ref C, rawInt m2, rawInt 0], []⟩) R s2 := fun s2 m2 t2 c2 k1 _ k2 k3 k4 =>
      ih (i + 1) s2 t2 c2 m2 k1 (by omega) lt k3 k4 fun s3 t3 mv3 => fin s3 t3 (Moved.trans W.gtrans k2 mv3)
    have one := Heap.get?_update_self (Obj.mapSeq fun _ => #[Value.int (preSum (fun j => b01 (bv j)) i + b01 (bv i)) s1.toks]) cell1 rfl
    have keep1 : ∀ (xs : Value) b o, C ≠ b → s1.heap.get? b = some o → (s1.heap.update C (Obj.mapSeq fun _ => #[xs])).get? b = some o := fun xs b o ne e => (Heap.get?_update_other _ _ ne).trans e
    rcases hm with rfl | rfl
    · show wpAny _ A.in1 (if (_ : Bool) = true then (mkInt (preSum (fun j => b01 (bv j)) i + b01 (bv i)) >>= _) else _) _ _ _
      refine wp_ite ?_ ?_
      · refine wpAny_bind (wpAny_mkInt ?_)
        show wpAny _ A.in1 (updateSeq C (fun _ => #[.int (preSum (fun j => b01 (bv j)) i + b01 (bv i)) s1.toks]) >>= _) _ _ _
        refine wpAny_bind (wpAny_updateSeq cell1 rfl (wpAny_pure ⟨plainId_quiet F.plain_sum_loop _, ?_⟩))
        refine go _ 0 s1.toks _ (.inl rfl) (fun b o ne e => keep1 _ b o ne e) ((mv.mono wide).then_heap (by first | exact Nat.le_succ _ | omega) fun b o nb e => keep1 _ b o (fun z => nb (z ▸ List.mem_cons_self)) e) (W.frame _ s1 _ _ st1 (by first | exact Nat.le_succ _ | omega) fun b hb o e => keep1 _ b o (other b hb) e) one
      · refine wpAny_bind (wpAny_rule ?_)
        refine wpAny_bind (wpAny_attempt (wpAny_holding (add_int_bool ?_)))
        show wpAny _ A.in1 (updateSeq C (fun _ => #[.int (preSum (fun j => b01 (bv j)) i + b01 (bv i)) s1.toks]) >>= _) _ _ _
        refine wpAny_bind (wpAny_updateSeq cell1 rfl (wpAny_bind (wpAny_letGo (wpAny_bind (wpAny_updateSeq one rfl (wpAny_pure ⟨plainId_quiet F.plain_sum_loop _, ?_⟩))))))
        have keep2 : ∀ b o, C ≠ b → s1.heap.get? b = some o → ((s1.heap.update C (Obj.mapSeq fun _ => #[.int (preSum (fun j => b01 (bv j)) i + b01 (bv i)) s1.toks])).update C (Obj.mapSeq fun _ => #[.int (preSum (fun j => b01 (bv j)) i + b01 (bv i)) s1.toks])).get? b = some o := fun b o ne e => (Heap.get?_update_other _ _ ne).trans (keep1 _ b o ne e)
        refine go _ 2 s1.toks _ (.inr rfl) keep2 ((mv.mono wide).then_heap (by first | exact Nat.le_succ _ | omega) fun b o nb e => keep2 b o (fun z => nb (z ▸ List.mem_cons_self)) e) (W.frame _ s1 _ _ st1 (by first | exact Nat.le_succ _ | omega) fun b hb o e => keep2 b o (other b hb) e) (Heap.get?_update_self _ one rfl)
    · show wpAny _ A.in1 ((holding [Value.bool (bv i)] (binaryOp .Add (.int (preSum (fun j => b01 (bv j)) i) tk) (.bool (bv i)))).attempt >>= _) _ _ _
      refine wpAny_bind (wpAny_attempt (wpAny_holding (add_int_bool ?_)))
      show wpAny _ A.in1 (updateSeq C (fun _ => #[.int (preSum (fun j => b01 (bv j)) i + b01 (bv i)) s1.toks]) >>= _) _ _ _
      refine wpAny_bind (wpAny_updateSeq cell1 rfl (wpAny_bind (wpAny_letGo (wpAny_bind (wpAny_updateSeq one rfl (wpAny_pure ⟨plainId_quiet F.plain_sum_loop _, ?_⟩))))))
      have keep2 : ∀ b o, C ≠ b → s1.heap.get? b = some o → ((s1.heap.update C (Obj.mapSeq fun _ => #[.int (preSum (fun j => b01 (bv j)) i + b01 (bv i)) s1.toks])).update C (Obj.mapSeq fun _ => #[.int (preSum (fun j => b01 (bv j)) i + b01 (bv i)) s1.toks])).get? b = some o := fun b o ne e => (Heap.get?_update_other _ _ ne).trans (keep1 _ b o ne e)
      refine go _ 2 s1.toks _ (.inr rfl) keep2 ((mv.mono wide).then_heap (by first | exact Nat.le_succ _ | omega) fun b o nb e => keep2 b o (fun z => nb (z ▸ List.mem_cons_self)) e) (W.frame _ s1 _ _ st1 (by first | exact Nat.le_succ _ | omega) fun b hb o e => keep2 b o (other b hb) e) (Heap.get?_update_self _ one rfl)
end
section
variable {S : Sta} {C : Orc} {W : WX} {X : Cx}
theorem bools_are : ∀ {bs : List Bool} {us : List Value}, Vals (bs.map V.bl) us → us = bs.map Value.bool
  | [], us, r => by
    cases us with
    | nil => rfl
    | cons u us => cases r
  | b :: bs, us, r => by
    rw [List.map_cons] at r
    cases r with
    | cons r rs => rw [List.map_cons, bools_are rs, show _ = Value.bool b from r]
theorem pre_b01 (bs : List Bool) (k : Nat) : preSum (fun j => b01 (bs.getD j false)) k = ((bs.map b01).take k).sum := by
  rw [← preSum_getD]
  congr 1
  funext j
  rw [List.getD_eq_getElem?_getD, List.getD_eq_getElem?_getD, List.getElem?_map]
  cases bs[j]? <;> rfl
theorem call_sumB (hc : X.calm = true) : CallR X (.builtin "sum") (rSumB X.K) := by
  intro pins s σ H xs us Q I r h
  obtain ⟨a, bs, rfl, hs, q⟩ := h
  obtain ⟨u, rfl, rx⟩ := vals1 r
  cases (show u = Value.ref a from rx)
  obtain ⟨its, rv, pl, hz⟩ := I.list hs
  have hits := bools_are rv
  have hh : X.A.in1.handled = none := I.ok.hd hc
  refine call_function_tree F.kind_sum F.plain_sum F.entry_sum (F.args_sum1 _) ?_
  unfold Builtin.«sum»
  simp only [List.length_cons, List.length_nil]
  rw [if_neg (by decide)]
  refine wpAny_bind (wpAny_of_eq (show Builtin.Builtins.bindParams "sum" ["start"] 0 { } = pure [none] from rfl) ?_)
  refine wpAny_bind (PySem.W.iter_listW (A := X.A.in1) hh pl.isList fun s2 e Wk st low wr keep => ?_)
  refine wpAny_bind (wpAny_mkInt (wpAny_bind (wpAny_pure ?_)))
  simp only [List.forIn_cons, List.forIn_nil]
  refine wpAny_bind (wpAny_bind (wpAny_bind (wpAny_isInstance (T := "int") (b := false) (typeIs_int _ _ _) PySem.sub_int_str ?_)))
  simp only [Bool.false_eq_true, if_false]
  refine wpAny_pure (wpAny_bind (wpAny_bind (wpAny_isInstance (T := "int") (b := false) (typeIs_int _ _ _) PySem.sub_int_bytes ?_)))
  simp only [Bool.false_eq_true, if_false]
  refine wpAny_pure (wpAny_bind (wpAny_bind (wpAny_isInstance (T := "int") (b := false) (typeIs_int _ _ _) PySem.sub_int_bytearray ?_)))
  simp only [Bool.false_eq_true, if_false]
  refine wpAny_pure (wpAny_pure (wpAny_bind (wpAny_newObj_type ?_)))
  have out : s2.heap.objs.size ∉ [s.heap.objs.size, a] := fun z => Nat.lt_irrefl _ (low _ z)
  refine wpAny_pure ⟨plainId_quiet F.plain_sum_loop _, code_sumB Wk (fun j => bs.getD j false) (fun i v hv => ?_) s2.heap.objs.size out its.toArray.size 0 _ s2.toks 0 0 (.inl rfl) rfl (Nat.zero_le _)
    (Wk.frame 0 s2 _ _ st (by first | exact Nat.le_succ _ | omega) fun b _ o e => Heap.get?_push_of_some _ e) (Heap.get?_push_size _ rfl) fun s3 t3 mv => ?_⟩
  · have hv : its[i]? = some v := by simpa using hv
    rw [hits, List.getElem?_map] at hv
    rw [List.getD_eq_getElem?_getD]
    cases z : bs[i]? with
    | none => rw [z] at hv; cases hv
    | some b => rw [z] at hv; cases hv; rfl
  · have mv := mv.drop_new (by first | exact Nat.le_refl _ | exact Nat.le_succ _ | omega)
    obtain ⟨h1, tk, rfl, old⟩ := PySem.W.moved_old e rfl mv
    refine ⟨.int (bs.map b01).sum, H, I.kept old, ⟨t3, ?_⟩, q⟩
    rw [pre_b01, List.take_of_length_le (by rw [hits]; simp)]

/-! ### a, b, .. = x, y, ..; some of them cells -/
def gNs : List Nat → TGs
  | [] => gNil
  | i :: is => gCons (gName i) (gNs is)
theorem parSet_len : ∀ {is : List Nat} {vs : List Val} {env env1 : Env}, parSet is vs env = some env1 → vs.length = is.length
  | [], [], _, _, _ => rfl
  | [], _ :: _, _, _, h => by cases h
  | _ :: _, [], _, _, h => by cases h
  | i :: is, v :: vs, env, env1, h => by
    have h : parSet is vs (env.set i (some v)) = some env1 := h
    rw [List.length_cons, List.length_cons, parSet_len h]
theorem repVs_len {F : Hp} {μ : Nat → Addr} {k : Nat} : ∀ {vs : List Val} {ws : List V}, RepVs S F μ k vs ws → ws.length = vs.length
  | [], ws, h => by rw [h.nil]; rfl
  | v :: vs, ws, h => by
    obtain ⟨w, us, rfl, h1, h2⟩ := h.cons
    rw [List.length_cons, List.length_cons, repVs_len h2]
theorem gNs_go {F H : Hp} {μ : Nat → Addr} {k : Nat} {Q : Sl → Hp → Prop} : ∀ {is : List Nat} {vs : List Val} {ws : List V} {env env1 : Env} {σ : Sl}, EnvR S μ F k env σ → RepVs S F μ k vs ws → parSet is vs env = some env1 → (∀ σ1, EnvR S μ F k env1 σ1 → Q σ1 H) → gNs is ws σ H Q
  | [], [], ws, env, env1, σ, he, r, h, q => by
    have h : some env = some env1 := h
    cases h
    rw [r.nil]
    exact ⟨rfl, q σ he⟩
  | [], _ :: _, _, _, _, _, _, _, h, _ => by cases h
  | _ :: _, [], _, _, _, _, _, _, h, _ => by cases h
  | i :: is, v :: vs, ws, env, env1, σ, he, r, h, q => by
    have h : parSet is vs (env.set i (some v)) = some env1 := h
    obtain ⟨w, us, rfl, r1, r2⟩ := r.cons
    exact ⟨w, us, rfl, gNs_go (he.set i r1) r2 h q⟩
theorem rS_parN {is : List Nat} {es : IEs} {D : Ends} {σ : Sl} {H : Hp} (hz : is.length ≤ 100) (q : rS S C W (.par is es) D σ H) : tAsg (tTup (rA S C W es)) (gTup S.K is.length (gNs is)) D σ H := by
  obtain ⟨μ, F, env, M, f, hM, hE, hd, hk⟩ := q
  unfold denS at hd
  refine rA_bndS hM hE hd hk fun μ1 F1 H1 vs M1 ws a m e1 r h1 k1 => ?_
  cases q1 : parSet is vs env with
  | none => rw [q1] at h1; cases h1
  | some env1 =>
    simp only [q1] at h1
    cases h1
    have hl : ws.length = is.length := by rw [repVs_len r, parSet_len q1]
    refine ⟨by rw [hl]; exact Evl.sz_of (Nat.le_trans hz (by decide)), fun p hp => ?_⟩
    have g := Grow.one m.sub (.tup ws) hp
    have a2 : Aft μ1 F1 H1 M1.length μ1 (upd F1 p (.tup ws)) (upd H1 p (.tup ws)) M1.length := g.aft
    exact ⟨p, ws, rfl, .inl (.inl upd_same), hl, gNs_go (e1.aft a2) (r.aft a2) q1 fun σ1 h3 => k1 μ1 _ _ σ1 a2 (m.grow g) h3⟩
theorem ps_parN {is : List Nat} {ies : IEs} {ts vs : List Expr} {kt k2 : Nat} {pt p2 pos : Pos} (hK : X.K = S.K) (hc : X.calm = true) (hz : is.length ≤ 100) (hg : PGs X ts (gNs is)) (hn : (assignEach ts X.env).length = is.length) (hst : (assignEach ts X.env).findIdx? (·.1) = none) (ha : PA X vs (rA S C W ies))
    (hs : swapsWithSole [.Tuple ts kt pt] (.Tuple vs k2 p2) pos.line X.env = pure false) (hw : swappedStores [.Tuple ts kt pt] (.Tuple vs k2 p2) X.env = pure none) : PS X (.Assign [.Tuple ts kt pt] (.Tuple vs k2 p2) pos) (rS S C W (.par is ies)) :=
  psI (ps_asg (pe_tup ha) (pg_tup (n := is.length) hc hg hn hst) hs hw rfl) fun D σ H q => by rw [hK]; exact rS_parN hz q
end
end PyI

/-! PyI S: attributes stored, append, except clauses with any suite. -/
namespace PyI
open PySem PySem.Spec PyProof.Rows L2
open Evl (Ex)
section
variable {S : Sta} {C : Orc} {W : WX} {X : Cx}
theorem putF_len {fs : List (Nat × D)} {f : Nat} {x : D} : (PyI.putF fs f x).length ≤ fs.length + 1 := by
  induction fs with
  | nil => simp [PyI.putF]
  | cons p fs ih =>
    obtain ⟨g, y⟩ := p
    unfold PyI.putF
    split
    · simp
    · simp only [List.length_cons]; omega
theorem putF_ok {fs : List (Nat × D)} {f : Nat} {x : D} (hf : S.fok f = true) (h : ∀ p ∈ fs, S.fok p.1 = true) : ∀ p ∈ PyI.putF fs f x, S.fok p.1 = true := by
  induction fs with
  | nil => intro p hp; simp only [PyI.putF, List.mem_singleton] at hp; subst hp; exact hf
  | cons q fs ih =>
    obtain ⟨g, y⟩ := q
    intro p hp
    unfold PyI.putF at hp
    split at hp
    · rcases List.mem_cons.mp hp with rfl | hp
      · exact hf
      · exact h p (List.mem_cons_of_mem _ hp)
    · rcases List.mem_cons.mp hp with rfl | hp
      · exact h _ List.mem_cons_self
      · exact ih (fun q hq => h q (List.mem_cons_of_mem _ hq)) p hp
theorem putF_rep (B : BaseF S) {F : Hp} {f : Nat} {x : D} {v : V} (hf : S.fok f = true) (rx : RepD S F x v) : ∀ {fs : List (Nat × D)} {vs : List V}, (∀ p ∈ fs, S.fok p.1 = true) → vs.length = fs.length → RepL S F (fs.map (·.2)) vs →
    ∃ ws, L2.putF (S.fnm f) v ((fs.map fun p => S.fnm p.1).zip vs) = ((PyI.putF fs f x).map fun p => S.fnm p.1).zip ws ∧ ws.length = (PyI.putF fs f x).length ∧ RepL S F ((PyI.putF fs f x).map (·.2)) ws
  | [], vs, _, _, r => by
    rw [repL_nil r]
    exact ⟨[v], rfl, rfl, repL_one rx⟩
  | (g, y) :: fs, vs, hk, hl, r => by
    obtain ⟨u, us, rfl, r1, r2⟩ := repL_cons r
    have hg : S.fok g = true := hk (g, y) List.mem_cons_self
    have hl : us.length = fs.length := by simpa using hl
    by_cases h : g = f
    · subst h
      refine ⟨v :: us, ?_, ?_, ?_⟩
      · simp [PyI.putF, L2.putF]
      · simp [PyI.putF, hl]
      · simp only [PyI.putF, if_pos rfl, List.map_cons]
        exact repL_mk rx r2
    · obtain ⟨ws, e, l, rr⟩ := putF_rep B hf rx (fun p hp => hk p (List.mem_cons_of_mem _ hp)) hl r2
      have ne : S.fnm g ≠ S.fnm f := fun z => h (B.inj g f hg hf z)
      refine ⟨u :: ws, ?_, ?_, ?_⟩
      · simp only [PyI.putF, if_neg h, List.map_cons, List.zip_cons_cons]
        rw [← e]
        simp [L2.putF, ne]
      · simp [PyI.putF, h, l]
      · simp only [PyI.putF, if_neg h, List.map_cons]
        exact repL_mk r1 rr
/-- the attribute of a cell is stored -/
theorem MemR.field (B : BaseF S) {μ : Nat → Addr} {F H : Hp} {M : Mem} {n c f : Nat} {fs : List (Nat × D)} {x : D} {v : V} (h : MemR S μ F M H) (e : M[n]? = some (.ins c fs)) (hf : S.fok f = true) (rx : RepD S F x v) :
    S.ih c = true ∧ ∃ dx gs, H (μ n) = some (.ins (S.ca c) dx gs) ∧ gs.length = fs.length ∧ MemR S μ F (M.set n (.ins c (PyI.putF fs f x))) (upd H (μ n) (.ins (S.ca c) dx (L2.putF (S.fnm f) v gs))) ∧
      Aft μ F H M.length μ F (upd H (μ n) (.ins (S.ca c) dx (L2.putF (S.fnm f) v gs))) (M.set n (.ins c (PyI.putF fs f x))).length := by
  obtain ⟨k0, kk, kf, dx, vs, kh, kl, kr⟩ := h.cell n _ e
  have hn : n < M.length := (List.getElem?_eq_some_iff.mp e).1
  obtain ⟨ws, e2, l2, r2⟩ := putF_rep B hf rx kk kl kr
  obtain ⟨m, a⟩ := h.cellSet (o := .ins (S.ca c) dx (L2.putF (S.fnm f) v ((fs.map fun p => S.fnm p.1).zip vs))) (c := .ins c (PyI.putF fs f x)) hn kf
    ⟨k0, putF_ok hf kk, kf, dx, ws, by rw [upd_same, e2], l2, r2⟩
  exact ⟨k0, dx, _, kh, by simp [kl], m, a⟩
theorem rS_setf (B : BaseF S) {x : Str} {f : Nat} {cs : List (Nat × Nat)} (ff : FldF S x f cs) (all : ∀ c, S.ih c = true → NoAttr S.K (S.ca c) x) {o e : IE} {D : Ends} {σ : Sl} {H : Hp} (q : rS S C W (.setf f o e) D σ H) : sFld S.K (rE S C W o) (rE S C W e) x D σ H := by
  obtain ⟨μ, F, env, M, g, hM, hE, hd, hk⟩ := q
  unfold denS at hd
  refine rE_bndS hM hE hd hk fun μ1 F1 H1 v M1 w a1 m1 e1 r1 h1 k1 => ?_
  refine rE_bndS m1 e1 h1 k1 fun μ2 F2 H2 ov M2 w2 a2 m2 e2 r2 h2 k2 => ?_
  cases q1 : setF f ov v M2 with
  | none => rw [q1] at h2; cases h2
  | some M3 =>
    simp only [q1] at h2
    cases h2
    cases ov with
    | d y => cases q1
    | rf n =>
      simp only [setF] at q1
      cases q2 : v.hold M2 with
      | none => rw [q2] at q1; cases q1
      | some p =>
        obtain ⟨y, M4⟩ := p
        simp only [q2] at q1
        obtain ⟨F4, m4, a4, ry⟩ := hold_ok m2 (r1.aft a2) q2
        cases q3 : M4[n]? with
        | none => rw [q3] at q1; cases q1
        | some cc =>
          rw [q3] at q1
          cases cc with
          | ins c fs =>
            simp only at q1
            split at q1
            · rename_i hz
              cases q1
              obtain ⟨k0, dx, gs, kh, kl, m5, a5⟩ := m4.field B q3 ff.ok ry
              have eo : w2 = V.ref (μ2 n) := r2.2
              rw [ff.nm] at m5 a5
              refine ⟨μ2 n, S.ca c, dx, gs, eo, kh, (B.ins c k0).cl, all c k0, by omega, ?_⟩
              exact k2 μ2 F4 _ σ (a4.trans a5) m5 (e2.aft (a4.trans a5))
            · cases q1
          | _ => cases q1

/-! ### self.a, self.b = e -/
def gFld (K : PySem.W.Frag) (ta : TE) (f : Str) : TG := fun v σ H Q => ta σ H fun x H1 => ∃ a A dx fs, x = .ref a ∧ H1 a = some (.ins A dx fs) ∧ Cls K A ∧ NoAttr K A f ∧ fs.length < 1000 ∧ Q σ (upd H1 a (.ins A dx (L2.putF f v fs)))
theorem pg_attr {o : Expr} {ta : TE} {f : Str} {pos : Pos} (ho : PE X o ta) : PG X (.Attribute o f pos) (gFld X.K ta f) := by
  refine ⟨fun pins s σ H v u Q I r h => ?_⟩
  show wpAny _ _ (do
    let ov ← holding [u] (eval o X.env)
    standAt pos.atName
    holding [u, ov] (setAttr ov f u)
    release [u, ov] []) _ _ _
  refine wpAny_bind (wpAny_holding (thn (ho.run pins s σ H _ I h) fun ov s1 z => ?_))
  obtain ⟨x, H1, I1, rx, a, A, dx, fs, rfl, ea, c, n, l, q⟩ := z
  cases (show ov = Value.ref a from rx)
  refine wpAny_bind (wpAny_standAt (wpAny_bind (wpAny_holding (setattr_ok I1 ea c n l r fun s2 I2 => ?_))))
  exact wpAny_release ⟨σ, _, I2, q⟩
/-- the attributes of the object in slot i -/
def gFlds (K : PySem.W.Frag) (i : Nat) : List Str → TGs
  | [] => gNil
  | f :: fs => gCons (gFld K (tVar i) f) (gFlds K i fs)
theorem fields_go (B : BaseF S) {i : Nat} {σ : Sl} {n c : Nat} {Q1 : Sl → Hp → Prop} : ∀ {fl : List Nat} {xs : List D} {fs gs : List (Nat × D)} {μ : Nat → Addr} {F H : Hp} {M : Mem} {vs : List V},
    (∀ f ∈ fl, S.fok f = true ∧ ∀ c, S.ih c = true → NoAttr S.K (S.ca c) (S.fnm f)) → MemR S μ F M H → σ[i]? = some (some (V.ref (μ n))) → M[n]? = some (.ins c fs) → putFs fs fl xs = some gs → fs.length + fl.length < 900 → RepL S F xs vs →
    (∀ H', MemR S μ F (M.set n (.ins c gs)) H' → Aft μ F H M.length μ F H' (M.set n (.ins c gs)).length → Q1 σ H') → gFlds S.K i (fl.map S.fnm) vs σ H Q1
  | [], [], fs, gs, μ, F, H, M, vs, _, hM, hs, hn, hp, hz, r, hq => by
    cases hp
    rw [repL_nil r]
    refine ⟨rfl, hq H ?_ ?_⟩
    · have hl := (List.getElem?_eq_some_iff.mp hn).1
      have e : M.set n (.ins c fs) = M := by
        rw [← (List.getElem?_eq_some_iff.mp hn).2]
        exact List.set_getElem_self hl
      rw [e]; exact hM
    · rw [List.length_set]; exact Aft.refl
  | [], _ :: _, fs, gs, μ, F, H, M, vs, _, _, _, _, hp, _, _, _ => by cases hp
  | _ :: _, [], fs, gs, μ, F, H, M, vs, _, _, _, _, hp, _, _, _ => by cases hp
  | f :: fl, x :: xs, fs, gs, μ, F, H, M, vs, ha, hM, hs, hn, hp, hz, r, hq => by
    obtain ⟨v, ws, rfl, r1, r2⟩ := repL_cons r
    have hp : putFs (PyI.putF fs f x) fl xs = some gs := hp
    obtain ⟨hf, hna⟩ := ha f List.mem_cons_self
    obtain ⟨k0, dx, gs2, kh, kl, m5, a5⟩ := hM.field B hn hf r1
    have hl := (List.getElem?_eq_some_iff.mp hn).1
    have zz : fs.length + (fl.length + 1) < 900 := hz
    refine ⟨v, ws, rfl, V.ref (μ n), hs, μ n, S.ca c, dx, gs2, rfl, kh, (B.ins c k0).cl, hna c k0, by omega, ?_⟩
    refine fields_go B (fun g hg => ha g (List.mem_cons_of_mem _ hg)) m5 hs (by rw [List.getElem?_set_self hl]) hp (by have := putF_len (fs := fs) (f := f) (x := x); omega) r2 fun H' m6 a6 => ?_
    rw [List.set_set] at m6 a6
    exact hq H' m6 (a5.trans a6)
theorem rS_setfs (B : BaseF S) {i : Nat} {fl : List Nat} (ha : ∀ f ∈ fl, S.fok f = true ∧ ∀ c, S.ih c = true → NoAttr S.K (S.ca c) (S.fnm f)) {e : IE} {D : Ends} {σ : Sl} {H : Hp} (q : rS S C W (.setfs i fl e) D σ H) :
    tAsg (rE S C W e) (gTup S.K fl.length (gFlds S.K i (fl.map S.fnm))) D σ H := by
  obtain ⟨μ, F, env, M, g, hM, hE, hd, hk⟩ := q
  unfold denS at hd
  refine rE_bndS hM hE hd hk fun μ1 F1 H1 v M1 w a1 m1 e1 r1 h1 k1 => ?_
  cases q0 : env[i]? with
  | none => rw [q0] at h1; cases h1
  | some o =>
    cases o with
    | none => rw [q0] at h1; cases h1
    | some ov =>
      simp only [q0] at h1
      cases q1 : setFs fl ov v M1 with
      | none => rw [q1] at h1; cases h1
      | some M2 =>
        simp only [q1] at h1
        cases h1
        obtain ⟨ow, hs, ro⟩ := e1.at_ i ov q0
        cases ov with
        | d y => cases q1
        | rf n =>
          obtain ⟨hn, rfl⟩ := (show n < M1.length ∧ ow = V.ref (μ1 n) from ro)
          cases v with
          | rf n => cases q1
          | d y =>
            cases y with
            | tup xs =>
              simp only [setFs] at q1
              cases q3 : M1[n]? with
              | none => rw [q3] at q1; cases q1
              | some cc =>
                rw [q3] at q1
                cases cc with
                | ins c fs =>
                  simp only at q1
                  split at q1
                  · rename_i hz
                    cases q4 : putFs fs fl xs with
                    | none => rw [q4] at q1; cases q1
                    | some gs =>
                      rw [q4] at q1
                      cases q1
                      obtain ⟨a, vs, rfl, p1, p2⟩ := repD_tup (S := S) (F := F1) r1
                      have len : ∀ {fl : List Nat} {xs : List PyI.D} {fs gs : List (Nat × PyI.D)}, putFs fs fl xs = some gs → xs.length = fl.length := by
                        intro fl
                        induction fl with
                        | nil => intro xs fs gs h; cases xs with
                          | nil => rfl
                          | cons x xs => cases h
                        | cons f fl ih => intro xs fs gs h; cases xs with
                          | nil => cases h
                          | cons x xs =>
                            have h : putFs (PyI.putF fs f x) fl xs = some gs := h
                            simp only [List.length_cons, ih h]
                      refine ⟨a, vs, rfl, Evl.ex_t m1.sub p1, by rw [← repL_len p2, len q4], ?_⟩
                      exact fields_go B ha m1 hs q3 q4 hz p2 fun H' m5 a5 => k1 μ1 F1 H' σ a5 m5 (e1.aft a5)
                  · cases q1
                | _ => cases q1
            | _ => cases q1

/-! ### xs.append(e) -/
theorem rS_app {o e : IE} {D : Ends} {σ : Sl} {H : Hp} (q : rS S C W (.app o e) D σ H) : tBM S.K "list" rAppend (rE S C W o) (tCons (rE S C W e) tNil) σ H fun _ H' => D.nx σ H' := by
  obtain ⟨μ, F, env, M, g, hM, hE, hd, hk⟩ := q
  unfold denS at hd
  refine rE_bndS hM hE hd hk fun μ1 F1 H1 ov M1 w a1 m1 e1 r1 h1 k1 => ?_
  split at h1
  · rename_i hl
    cases ov with
    | d y => cases hl
    | rf n =>
      obtain ⟨hn, rfl⟩ := (show n < M1.length ∧ w = V.ref (μ1 n) from r1)
      refine ⟨?_, rE_bndS m1 e1 h1 k1 fun μ2 F2 H2 v M2 w2 a2 m2 e2 r2 h2 k2 => ?_⟩
      · have hl : (match M1[n]? with
          | some (.lst _) => true
          | _ => false) = true := hl
        cases q : M1[n]? with
        | none => rw [q] at hl; cases hl
        | some c =>
          rw [q] at hl
          cases c with
          | lst xs =>
            obtain ⟨_, vs, hv, _⟩ := m1.cell n _ q
            exact .inl ⟨rfl, vs, Evl.sq_of hv⟩
          | _ => cases hl
      · cases q1 : appV (.rf n) v M2 with
        | none => rw [q1] at h2; cases h2
        | some M3 =>
          simp only [q1] at h2
          cases h2
          simp only [appV] at q1
          cases q2 : v.hold M2 with
          | none => rw [q2] at q1; cases q1
          | some p =>
            obtain ⟨y, M4⟩ := p
            simp only [q2] at q1
            obtain ⟨F4, m4, a4, ry⟩ := hold_ok m2 r2 q2
            cases q3 : M4[n]? with
            | none => rw [q3] at q1; cases q1
            | some cc =>
              rw [q3] at q1
              cases cc with
              | lst xs =>
                simp only at q1
                split at q1
                · rename_i hz
                  cases q1
                  obtain ⟨nf, vs, hv, rl⟩ := m4.cell n _ q3
                  have hn4 : n < M4.length := (List.getElem?_eq_some_iff.mp q3).1
                  obtain ⟨m5, a5⟩ := m4.cellSet (o := .lst (vs ++ [w2])) (c := .lst (xs ++ [y])) hn4 nf ⟨nf, _, upd_same, repL_app rl (repL_one ry)⟩
                  refine ⟨μ2 n, vs, w2, by rw [a2.mu n hn], rfl, hv, by rw [← repL_len rl]; exact hz, ?_⟩
                  exact k2 μ2 F4 _ σ (a4.trans a5) m5 (e2.aft (a4.trans a5))
                · cases q1
              | _ => cases q1
  · cases h1
end
end PyI

/-! PyI 7: what is walked, for, comprehensions. -/
namespace PyI
open PySem PySem.Spec PyProof.Rows L2
open Evl (Ex)

/-- an iterator that gives these items, whatever comes to F -/
structure Yields (S : Sta) (J : It) (xs : List D) (F0 : Hp) : Prop where
  go : ∀ i F H, Ex F0 F → Ex F H → i < xs.length → J.go i H
  stop : ∀ F H, Ex F0 F → Ex F H → J.stop xs.length H
  yld : ∀ i F H x H', Ex F0 F → Ex F H → i < xs.length → J.yld i H x H' → ∃ z F', xs[i]? = some z ∧ Grow F F' H H' ∧ RepD S F' z x
def KI (S : Sta) (W : WX) (μ : Nat → Addr) (F H : Hp) (k : Nat) (σ : Sl) (Rr : It → Hp → Prop) : R (List D) → Prop
  | .ok xs M => ∀ μ' F' H' J, Aft μ F H k μ' F' H' M.length → MemR S μ' F' M H' → Yields S J xs F' → Rr J H'
  | .ex x M => ∀ μ' F' H' cls d, Aft μ F H k μ' F' H' M.length → MemR S μ' F' M H' → RepX S F' x cls d → W cls d σ H'
def rI (S : Sta) (C : Orc) (W : WX) (it : II) : TI := fun σ H R =>
  ∃ μ F env M r, MemR S μ F M H ∧ EnvR S μ F M.length env σ ∧ denI C it env M = some r ∧ KI S W μ F H M.length σ R r
section
variable {S : Sta} {C : Orc} {W : WX} {X : Cx}
theorem piI {tg e : Expr} {t t' : TI} (h : PI X tg e t) (i : ∀ σ H R, t' σ H R → t σ H R) : PI X tg e t' := ⟨fun pins s σ H R I q => h.run pins s σ H R I (i σ H R q)⟩
/-- a list or a tuple that is there -/
theorem pi_seqI {tg l : Expr} {tl : TE} (hl : PE X l tl) : PI X tg l (fun σ H R => tl σ H fun x H1 => ∃ a, x = V.ref a ∧ (((∃ xs, SqL X.K H1 a xs) ∧ R (Itl X.K a) H1) ∨ ((∃ xs, SqT X.K H1 a xs) ∧ R (Itt X.K a) H1))) := by
  refine ⟨fun pins s σ H R I h => thn (hl.run pins s σ H _ I h) fun v s1 ⟨x, H1, I1, r1, a, ex, q⟩ => ?_⟩
  subst ex
  cases r1
  have fp : ∀ b ∈ [s1.heap.objs.size], FpOk X pins H1 b := fun b hb => by
    rw [List.mem_singleton.mp hb]
    exact I1.fpOk (Nat.le_refl _) (I1.hok.fresh (Nat.le_refl _))
  rcases q with ⟨⟨xs, hq⟩, q⟩ | ⟨⟨xs, hq⟩, q⟩
  · obtain ⟨its, _, p, _⟩ := I1.list hq
    exact wpAny_pyIter_list p.isList ⟨_, [s1.heap.objs.size], _, _, H1, rfl, I1.kept (t' := s1.toks) fun b o e => Heap.get?_push_of_some _ e, turn_list a _, ⟨_, Heap.get?_push_size _ rfl, rfl, rfl⟩, fp, q⟩
  · obtain ⟨its, _, p, _⟩ := I1.tuple hq
    exact wpAny_pyIter_tuple (show s1.heap.IsTuple a its.toArray from p) ⟨_, [s1.heap.objs.size], _, _, H1, rfl, I1.kept (t' := s1.toks) fun b o e => Heap.get?_push_of_some _ e, turn_tuple a _, ⟨_, Heap.get?_push_size _ rfl, rfl, rfl⟩, fp, q⟩
theorem yields_l {F : Hp} {a : Addr} {vs : List V} {xs : List D} (h : SqL S.K F a vs) (r : RepL S F xs vs) : Yields S (Itl S.K a) xs F := by
  have hl := repL_len r
  refine ⟨fun i F1 H e1 e2 hi => ?_, fun F1 H e1 e2 => ?_, fun i F1 H x H' e1 e2 hi y => ?_⟩
  · exact ⟨vs, vs[i]'(by omega), Evl.ex_l (e1.trans e2) h, List.getElem?_eq_getElem _⟩
  · exact ⟨vs, Evl.ex_l (e1.trans e2) h, by omega⟩
  · obtain ⟨rfl, y⟩ := y
    have q := y vs (Evl.ex_l (e1.trans e2) h)
    obtain ⟨v, hv, rv⟩ := repL_get r (List.getElem?_eq_getElem hi)
    rw [q] at hv
    cases hv
    exact ⟨_, F1, List.getElem?_eq_getElem hi, Grow.same e2, repD_ex e1 _ rv⟩
theorem yields_t {F : Hp} {a : Addr} {vs : List V} {xs : List D} (h : SqT S.K F a vs) (r : RepL S F xs vs) : Yields S (Itt S.K a) xs F := by
  have hl := repL_len r
  refine ⟨fun i F1 H e1 e2 hi => ?_, fun F1 H e1 e2 => ?_, fun i F1 H x H' e1 e2 hi y => ?_⟩
  · exact ⟨vs, vs[i]'(by omega), Evl.ex_t (e1.trans e2) h, List.getElem?_eq_getElem _⟩
  · exact ⟨vs, Evl.ex_t (e1.trans e2) h, by omega⟩
  · obtain ⟨rfl, y⟩ := y
    have q := y vs (Evl.ex_t (e1.trans e2) h)
    obtain ⟨v, hv, rv⟩ := repL_get r (List.getElem?_eq_getElem hi)
    rw [q] at hv
    cases hv
    exact ⟨_, F1, List.getElem?_eq_getElem hi, Grow.same e2, repD_ex e1 _ rv⟩
theorem rngL_get {lo hi : Int} {i : Nat} : (rngL lo hi)[i]? = if i < (hi - lo).toNat then some (D.int (lo + i)) else none := by
  unfold rngL
  rw [List.getElem?_map]
  by_cases h : i < (hi - lo).toNat
  · rw [if_pos h, List.getElem?_range h] <;> rfl
  · rw [if_neg h, List.getElem?_eq_none (by simpa using h)] <;> rfl
theorem rngL_len {lo hi : Int} : (rngL lo hi).length = (hi - lo).toNat := by unfold rngL; rw [List.length_map, List.length_range]
theorem yields_r {F : Hp} {lo hi : Int} : Yields S (Itr lo (hi - lo).toNat) (rngL lo hi) F := by
  refine ⟨fun i F1 H e1 e2 h => ?_, fun F1 H e1 e2 => ?_, fun i F1 H x H' e1 e2 h y => ?_⟩
  · rw [rngL_len] at h; exact h
  · rw [rngL_len]; exact Nat.le_refl _
  · obtain ⟨rfl, rfl⟩ := y
    rw [rngL_len] at h
    exact ⟨_, F1, by rw [rngL_get, if_pos h], Grow.same e2, rep_int (S := S) (F := F1)⟩

/-- for x in a list or a tuple -/
theorem pi_seqJ {tg l : Expr} {ie : IE} (hK : X.K = S.K) (hl : PE X l (rE S C W ie)) : PI X tg l (rI S C W (.seq ie)) := by
  refine piI (pi_seqI hl) fun σ H R q => ?_
  obtain ⟨μ, F, env, M, r, hM, hE, hd, hk⟩ := q
  unfold denI at hd
  rcases bnd_eq hd with ⟨v, M1, e1, h1⟩ | ⟨x, M1, e1, e2⟩
  · refine ⟨μ, F, env, M, _, hM, hE, e1, fun μ1 F1 H1 w a1 m1 q1 => ?_⟩
    unfold runSeq at h1
    cases q2 : v.hold M1 with
    | none => rw [q2] at h1; cases h1
    | some p =>
      obtain ⟨x, M2⟩ := p
      rw [q2] at h1
      obtain ⟨F2, m2, a2, rx⟩ := hold_ok m1 q1 q2
      rw [hK]
      cases x with
      | lst xs =>
        cases h1
        obtain ⟨a, vs, rfl, h2, h3⟩ := repD_lst rx
        exact ⟨a, rfl, .inl ⟨⟨vs, Evl.ex_l m2.sub (Evl.sq_of h2)⟩, hk μ1 F2 H1 _ (a1.trans a2) m2 (yields_l (Evl.sq_of h2) h3)⟩⟩
      | frl xs =>
        cases h1
        obtain ⟨a, vs, rfl, h2, h3⟩ := repD_frl rx
        exact ⟨a, rfl, .inl ⟨⟨vs, Evl.ex_l m2.sub h2⟩, hk μ1 F2 H1 _ (a1.trans a2) m2 (yields_l h2 h3)⟩⟩
      | tup xs =>
        cases h1
        obtain ⟨a, vs, rfl, h2, h3⟩ := repD_tup rx
        exact ⟨a, rfl, .inr ⟨⟨vs, Evl.ex_t m2.sub h2⟩, hk μ1 F2 H1 _ (a1.trans a2) m2 (yields_t h2 h3)⟩⟩
      | _ => cases h1
  · subst e2
    exact ⟨μ, F, env, M, _, hM, hE, e1, hk⟩
theorem runRange_cases {vs : List Val} {M : Mem} {r : R (List D)} (h : runRange vs M = some r) : (∃ j, vs = [.d (.int j)] ∧ rngOk j = true ∧ r = .ok (rngL 0 j) M) ∨ ∃ i j, vs = [.d (.int i), .d (.int j)] ∧ rngOk i = true ∧ rngOk j = true ∧ r = .ok (rngL i j) M := by
  unfold runRange at h
  split at h
  · split at h
    · rename_i q; cases h; exact .inl ⟨_, rfl, q, rfl⟩
    · cases h
  · split at h
    · rename_i q
      rw [Bool.and_eq_true] at q
      cases h
      exact .inr ⟨_, _, rfl, q.1, q.2, rfl⟩
    · cases h
  · cases h
theorem rngOk_iff {i : Int} (h : rngOk i = true) : -(2 ^ 62) ≤ i ∧ i < 2 ^ 62 := by
  unfold rngOk at h
  rw [Bool.and_eq_true, decide_eq_true_eq, decide_eq_true_eq] at h
  exact h
theorem pi_rng1J {tg a : Expr} {ia : IE} {p pos : Pos} (hg : Gl X "range") (hm : X.mg "range" = none) (ha : PA X [a] (rA S C W (.cons ia .nil))) (hs : ∀ y p, a ≠ .Starred y p) : PI X tg (.Call (.Name "range" p) [a] [] pos) (rI S C W (.range (.cons ia .nil))) := by
  refine piI (pi_range1 hg hm ha (star_no hs)) fun σ H R q => ?_
  obtain ⟨μ, F, env, M, r, hM, hE, hd, hk⟩ := q
  unfold denI at hd
  rcases bnd_eq hd with ⟨vs, M1, e1, h1⟩ | ⟨x, M1, e1, e2⟩
  · refine ⟨μ, F, env, M, _, hM, hE, e1, fun μ1 F1 H1 ws a1 m1 q1 => ?_⟩
    rcases runRange_cases h1 with ⟨j, rfl, ok, rfl⟩ | ⟨i, j, rfl, ok1, ok2, rfl⟩
    · obtain ⟨w, us, rfl, h2, h3⟩ := q1.cons
      rw [h3.nil, repD_int (S := S) (F := F1) h2]
      have k := rngOk_iff ok
      have z := hk μ1 F1 H1 _ a1 m1 (yields_r (lo := 0) (hi := j))
      rw [Int.sub_zero] at z
      exact ⟨j, rfl, k.1, k.2, z⟩
    · -- one argument cannot give two values
      unfold denEs at e1
      rcases bnd_eq e1 with ⟨v, M2, e3, h3⟩ | ⟨x, M2, e3, h3⟩
      · unfold denEs at h3
        cases h3
      · cases h3
  · subst e2
    exact ⟨μ, F, env, M, _, hM, hE, e1, hk⟩
theorem pi_rng2J {tg a b : Expr} {ia ib : IE} {p pos : Pos} (hg : Gl X "range") (hm : X.mg "range" = none) (ha : PA X [a, b] (rA S C W (.cons ia (.cons ib .nil)))) (hs : ∀ y p, a ≠ .Starred y p) (hs2 : ∀ y p, b ≠ .Starred y p) :
    PI X tg (.Call (.Name "range" p) [a, b] [] pos) (rI S C W (.range (.cons ia (.cons ib .nil)))) := by
  refine piI (pi_range2 hg hm ha (by rw [star_no hs, star_no hs2] <;> rfl) (star_no hs2)) fun σ H R q => ?_
  obtain ⟨μ, F, env, M, r, hM, hE, hd, hk⟩ := q
  unfold denI at hd
  rcases bnd_eq hd with ⟨vs, M1, e1, h1⟩ | ⟨x, M1, e1, e2⟩
  · refine ⟨μ, F, env, M, _, hM, hE, e1, fun μ1 F1 H1 ws a1 m1 q1 => ?_⟩
    rcases runRange_cases h1 with ⟨j, rfl, ok, rfl⟩ | ⟨i, j, rfl, ok1, ok2, rfl⟩
    · unfold denEs at e1
      rcases bnd_eq e1 with ⟨v, M2, e3, h3⟩ | ⟨x, M2, e3, h3⟩
      · rcases bnd_eq h3 with ⟨us, M3, e4, h4⟩ | ⟨x, M3, e4, h4⟩
        · unfold denEs at e4
          rcases bnd_eq e4 with ⟨u, M4, e5, h5⟩ | ⟨x, M4, e5, h5⟩
          · rcases bnd_eq h5 with ⟨us2, M5, e6, h6⟩ | ⟨x, M5, e6, h6⟩
            · cases h6; cases h4
            · cases h6
          · cases h5
        · cases h4
      · cases h3
    · obtain ⟨v, w, rfl, h2, h3⟩ := repVs_two q1
      rw [repD_int (S := S) (F := F1) h2, repD_int (S := S) (F := F1) h3]
      have k := rngOk_iff ok1
      have k' := rngOk_iff ok2
      exact ⟨i, j, rfl, ⟨k.1, k.2, k'.1, k'.2⟩, hk μ1 F1 H1 _ a1 m1 yields_r⟩
  · subst e2
    exact ⟨μ, F, env, M, _, hM, hE, e1, hk⟩

/-! ### enumerate, zip -/
theorem enumL_get : ∀ (xs : List D) (k i : Nat), (enumL k xs)[i]? = xs[i]?.map fun x => .tup [.int ((k + i : Nat) : Int), x]
  | [], k, i => by simp [enumL]
  | x :: xs, k, 0 => by simp [enumL]
  | x :: xs, k, i + 1 => by
    show (enumL (k + 1) xs)[i]? = _
    rw [enumL_get xs (k + 1) i]
    simp only [List.getElem?_cons_succ]
    rw [show k + 1 + i = k + (i + 1) by omega]
theorem enumL_len : ∀ (xs : List D) (k : Nat), (enumL k xs).length = xs.length
  | [], _ => rfl
  | x :: xs, k => by rw [enumL, List.length_cons, enumL_len xs (k + 1), List.length_cons]
theorem zipL_get : ∀ (xs ys : List D) (i : Nat) {x y : D}, xs[i]? = some x → ys[i]? = some y → (zipL xs ys)[i]? = some (.tup [x, y])
  | [], _, i, x, y, h, _ => by simp at h
  | _ :: _, [], i, x, y, _, h => by simp at h
  | a :: xs, b :: ys, 0, x, y, h, h2 => by
    simp at h h2
    subst h h2
    rfl
  | a :: xs, b :: ys, i + 1, x, y, h, h2 => zipL_get xs ys i (by simpa using h) (by simpa using h2)
theorem zipL_len : ∀ (xs ys : List D), (zipL xs ys).length = min xs.length ys.length
  | [], _ => by simp [zipL]
  | _ :: _, [] => by simp [zipL]
  | a :: xs, b :: ys => by
    rw [zipL, List.length_cons, zipL_len xs ys, List.length_cons, List.length_cons]
    omega
theorem yields_e {F : Hp} {a : Addr} {vs : List V} {xs : List D} (h : SqL S.K F a vs) (r : RepL S F xs vs) : Yields S (Ite S.K a) (enumL 0 xs) F := by
  have hl := repL_len r
  refine ⟨fun i F1 H e1 e2 hi => ?_, fun F1 H e1 e2 => ?_, fun i F1 H x H' e1 e2 hi y => ?_⟩
  · rw [enumL_len] at hi
    exact ⟨vs, vs[i]'(by omega), Evl.ex_l (e1.trans e2) h, List.getElem?_eq_getElem _⟩
  · rw [enumL_len]
    exact ⟨vs, Evl.ex_l (e1.trans e2) h, by omega⟩
  · rw [enumL_len] at hi
    obtain ⟨p, v, rfl, hp, rfl, y⟩ := y
    have q := y vs (Evl.ex_l (e1.trans e2) h)
    obtain ⟨v', hv, rv⟩ := repL_get r (List.getElem?_eq_getElem hi)
    rw [q] at hv
    cases hv
    have g := Grow.one e2 (.tup [.int (i : Nat), v]) hp
    refine ⟨_, _, by rw [enumL_get, List.getElem?_eq_getElem hi]; rfl, g, ?_⟩
    rw [Nat.zero_add]
    exact rep_tup (Evl.st_of upd_same) (repL_mk (rep_int (S := S) (i := (i : Nat))) (repL_one (repD_ex (e1.trans g.f) _ rv)))
theorem yields_z {F : Hp} {a b : Addr} {vs ws : List V} {xs ys : List D} (h : SqL S.K F a vs) (r : RepL S F xs vs) (h2 : SqL S.K F b ws) (r2 : RepL S F ys ws) : Yields S (Itz S.K a b) (zipL xs ys) F := by
  have hl := repL_len r
  have hl2 := repL_len r2
  refine ⟨fun i F1 H e1 e2 hi => ?_, fun F1 H e1 e2 => ?_, fun i F1 H x H' e1 e2 hi y => ?_⟩
  · rw [zipL_len] at hi
    exact ⟨vs, ws, vs[i]'(by omega), ws[i]'(by omega), Evl.ex_l (e1.trans e2) h, Evl.ex_l (e1.trans e2) h2, List.getElem?_eq_getElem _, List.getElem?_eq_getElem _⟩
  · rw [zipL_len]
    exact ⟨vs, ws, Evl.ex_l (e1.trans e2) h, Evl.ex_l (e1.trans e2) h2, by omega⟩
  · rw [zipL_len] at hi
    obtain ⟨p, v, w, rfl, hp, rfl, y, y2⟩ := y
    have q := y vs (Evl.ex_l (e1.trans e2) h)
    have q2 := y2 ws (Evl.ex_l (e1.trans e2) h2)
    obtain ⟨v', hv, rv⟩ := repL_get r (List.getElem?_eq_getElem (i := i) (by omega))
    obtain ⟨w', hw, rw'⟩ := repL_get r2 (List.getElem?_eq_getElem (i := i) (by omega))
    rw [q] at hv
    cases hv
    rw [q2] at hw
    cases hw
    have g := Grow.one e2 (.tup [v, w]) hp
    exact ⟨_, _, zipL_get xs ys i (List.getElem?_eq_getElem _) (List.getElem?_eq_getElem _), g, rep_tup (Evl.st_of upd_same) (repL_mk (repD_ex (e1.trans g.f) _ rv) (repL_one (repD_ex (e1.trans g.f) _ rw')))⟩
theorem yields_zt {F : Hp} {a b : Addr} {vs ws : List V} {xs ys : List D} (h : SqT S.K F a vs) (r : RepL S F xs vs) (h2 : SqT S.K F b ws) (r2 : RepL S F ys ws) : Yields S (RZ.ItzT S.K a b) (zipL xs ys) F := by
  have hl := repL_len r
  have hl2 := repL_len r2
  refine ⟨fun i F1 H e1 e2 hi => ?_, fun F1 H e1 e2 => ?_, fun i F1 H x H' e1 e2 hi y => ?_⟩
  · rw [zipL_len] at hi
    exact ⟨vs, ws, vs[i]'(by omega), ws[i]'(by omega), Evl.ex_t (e1.trans e2) h, Evl.ex_t (e1.trans e2) h2, List.getElem?_eq_getElem _, List.getElem?_eq_getElem _⟩
  · rw [zipL_len]
    exact ⟨vs, ws, Evl.ex_t (e1.trans e2) h, Evl.ex_t (e1.trans e2) h2, by omega⟩
  · rw [zipL_len] at hi
    obtain ⟨p, v, w, rfl, hp, rfl, y, y2⟩ := y
    have q := y vs (Evl.ex_t (e1.trans e2) h)
    have q2 := y2 ws (Evl.ex_t (e1.trans e2) h2)
    obtain ⟨v', hv, rv⟩ := repL_get r (List.getElem?_eq_getElem (i := i) (by omega))
    obtain ⟨w', hw, rw'⟩ := repL_get r2 (List.getElem?_eq_getElem (i := i) (by omega))
    rw [q] at hv
    cases hv
    rw [q2] at hw
    cases hw
    have g := Grow.one e2 (.tup [v, w]) hp
    exact ⟨_, _, zipL_get xs ys i (List.getElem?_eq_getElem _) (List.getElem?_eq_getElem _), g, rep_tup (Evl.st_of upd_same) (repL_mk (repD_ex (e1.trans g.f) _ rv) (repL_one (repD_ex (e1.trans g.f) _ rw')))⟩
theorem runEnum_cases {vs : List Val} {M : Mem} {r : R (List D)} (h : runEnum vs M = some r) : ∃ xs M1, r = .ok (enumL 0 xs) M1 ∧ (holds M vs = some ([.lst xs], M1) ∨ holds M vs = some ([.frl xs], M1)) := by
  unfold runEnum at h
  split at h
  · rename_i xs M1 q
    cases h
    exact ⟨xs, M1, rfl, .inl q⟩
  · rename_i xs M1 q
    cases h
    exact ⟨xs, M1, rfl, .inr q⟩
  · cases h
theorem runZip_cases {vs : List Val} {M : Mem} {r : R (List D)} (h : runZip vs M = some r) : ∃ xs ys M1, r = .ok (zipL xs ys) M1 ∧ (holds M vs = some ([.lst xs, .lst ys], M1) ∨ holds M vs = some ([.tup xs, .tup ys], M1)) := by
  unfold runZip at h
  split at h
  · rename_i xs ys M1 q
    cases h
    exact ⟨xs, ys, M1, rfl, .inl q⟩
  · rename_i xs ys M1 q
    cases h
    exact ⟨xs, ys, M1, rfl, .inr q⟩
  · cases h
theorem pi_enumJ {a : Expr} {ia : IE} {p pos tpos : Pos} {elts : List Expr} {kk : Nat} (hK : X.K = S.K) (hg : Gl X "enumerate") (hm : X.mg "enumerate" = none) (ha : PA X [a] (rA S C W (.cons ia .nil))) (hs : ∀ y p, a ≠ .Starred y p) : PI X (.Tuple elts kk tpos) (.Call (.Name "enumerate" p) [a] [] pos) (rI S C W (.enum (.cons ia .nil))) := by
  refine piI (pi_enum hg hm ha (star_no hs)) fun σ H R q => ?_
  obtain ⟨μ, F, env, M, r, hM, hE, hd, hk⟩ := q
  unfold denI at hd
  rcases bnd_eq hd with ⟨vs, M1, e1, h1⟩ | ⟨x, M1, e1, e2⟩
  · refine ⟨μ, F, env, M, _, hM, hE, e1, fun μ1 F1 H1 ws a1 m1 q1 => ?_⟩
    obtain ⟨xs, M2, rfl, h2⟩ := runEnum_cases h1
    rw [hK]
    rcases h2 with h2 | h2
    · obtain ⟨F2, m2, a2, r2⟩ := holds_ok m1 q1 h2
      obtain ⟨w, ws2, rfl, r3, r4⟩ := repL_cons r2
      cases ws2 with
      | cons _ _ => exact (show False by simpa only [RepL] using r4).elim
      | nil =>
        obtain ⟨b, vs2, rfl, k1, k2⟩ := repD_lst r3
        exact ⟨b, vs2, rfl, Evl.ex_l m2.sub (Evl.sq_of k1), hk μ1 F2 H1 _ (a1.trans a2) m2 (yields_e (Evl.sq_of k1) k2)⟩
    · obtain ⟨F2, m2, a2, r2⟩ := holds_ok m1 q1 h2
      obtain ⟨w, ws2, rfl, r3, r4⟩ := repL_cons r2
      cases ws2 with
      | cons _ _ => exact (show False by simpa only [RepL] using r4).elim
      | nil =>
        obtain ⟨b, vs2, rfl, k1, k2⟩ := repD_frl r3
        exact ⟨b, vs2, rfl, Evl.ex_l m2.sub k1, hk μ1 F2 H1 _ (a1.trans a2) m2 (yields_e k1 k2)⟩
  · subst e2
    exact ⟨μ, F, env, M, _, hM, hE, e1, hk⟩
theorem pi_zipJ {a b : Expr} {ia ib : IE} {p pos tpos : Pos} {elts : List Expr} {kk : Nat} (hK : X.K = S.K) (hg : Gl X "zip") (hm : X.mg "zip" = none) (ha : PA X [a, b] (rA S C W (.cons ia (.cons ib .nil)))) (hs : ∀ y p, a ≠ .Starred y p) (hs2 : ∀ y p, b ≠ .Starred y p) : PI X (.Tuple elts kk tpos) (.Call (.Name "zip" p) [a, b] [] pos) (rI S C W (.zip (.cons ia (.cons ib .nil)))) := by
  refine piI (RZ.pi_zipA hg hm ha (by rw [star_no hs, star_no hs2] <;> rfl) (by rw [star_no hs2] <;> rfl)) fun σ H R q => ?_
  obtain ⟨μ, F, env, M, r, hM, hE, hd, hk⟩ := q
  unfold denI at hd
  rcases bnd_eq hd with ⟨vs, M1, e1, h1⟩ | ⟨x, M1, e1, e2⟩
  · refine ⟨μ, F, env, M, _, hM, hE, e1, fun μ1 F1 H1 ws a1 m1 q1 => ?_⟩
    obtain ⟨xs, ys, M2, rfl, h2⟩ := runZip_cases h1
    rw [hK]
    rcases h2 with h2 | h2
    · obtain ⟨F2, m2, a2, r2⟩ := holds_ok m1 q1 h2
      obtain ⟨w, ws2, rfl, r3, r4⟩ := repL_cons r2
      obtain ⟨w', ws3, rfl, r5, r6⟩ := repL_cons r4
      cases ws3 with
      | cons _ _ => exact (show False by simpa only [RepL] using r6).elim
      | nil =>
        obtain ⟨b, vs2, rfl, k1, k2⟩ := repD_lst r3
        obtain ⟨b', vs3, rfl, k3, k4⟩ := repD_lst r5
        exact ⟨b, b', vs2, vs3, rfl, .inl ⟨Evl.ex_l m2.sub (Evl.sq_of k1), Evl.ex_l m2.sub (Evl.sq_of k3), hk μ1 F2 H1 _ (a1.trans a2) m2 (yields_z (Evl.sq_of k1) k2 (Evl.sq_of k3) k4)⟩⟩
    · obtain ⟨F2, m2, a2, r2⟩ := holds_ok m1 q1 h2
      obtain ⟨w, ws2, rfl, r3, r4⟩ := repL_cons r2
      obtain ⟨w', ws3, rfl, r5, r6⟩ := repL_cons r4
      cases ws3 with
      | cons _ _ => exact (show False by simpa only [RepL] using r6).elim
      | nil =>
        obtain ⟨b, vs2, rfl, k1, k2⟩ := repD_tup r3
        obtain ⟨b', vs3, rfl, k3, k4⟩ := repD_tup r5
        exact ⟨b, b', vs2, vs3, rfl, .inr ⟨Evl.ex_t m2.sub k1, Evl.ex_t m2.sub k3, hk μ1 F2 H1 _ (a1.trans a2) m2 (yields_zt k1 k2 k3 k4)⟩⟩
  · subst e2
    exact ⟨μ, F, env, M, _, hM, hE, e1, hk⟩

/-! ### for -/
theorem ps_forI {tg iter : Expr} {b : List Stmt} {it : II} {t : Tg} {ib : ISs} {pos : Pos} (hp : PassesOwn (model X.prog X.w) X.A X.env X.xe) (hc : X.calm = true) (hi : PI X tg iter (rI S C W it)) (hg : PG X tg (rG S t)) (hb : PSs X b (rSs S C W ib))
    (hs : ∀ x, foldedSetIterable iter X.env x = pure x) : PS X (.For tg iter b [] pos) (rS S C W (.for t it ib)) := by
  refine psI (ps_for hp hc hi hg hb hs) fun D σ H q => ?_
  obtain ⟨μ, F, env, M, f, hM, hE, hd, hk⟩ := q
  unfold denS at hd
  rcases bndS_eq hd with ⟨xs, M1, e1, h1⟩ | ⟨x, M1, e1, e2⟩
  · refine ⟨μ, F, env, M, _, hM, hE, e1, fun μ1 F1 H1 J a1 m1 hy => ?_⟩
    -- the word of the loop
    refine ⟨fun i m σ H => i + m = xs.length ∧ ∃ μ F env M f, Ex F1 F ∧ MemR S μ F M H ∧ EnvR S μ F M.length env σ ∧ forL t (denSs C ib) (xs.drop i) env M = some f ∧ KS S W μ F H M.length D f,
      ⟨xs.length, by omega, μ1, F1, env, M1, f, Evl.Ex.refl F1, m1, hE.aft a1, by simpa using h1, hk.weak a1⟩, ?_⟩
    rintro i m σ H ⟨him, μ, F, env, M, f, ex, hM, hE, hd, hk⟩
    by_cases hi : i < xs.length
    · refine .inr ⟨hy.go i F H ex hM.sub hi, fun σ' H' => (i + 1) + (m - 1) = xs.length ∧ ∃ μ F env M f, Ex F1 F ∧ MemR S μ F M H' ∧ EnvR S μ F M.length env σ' ∧ forL t (denSs C ib) (xs.drop (i + 1)) env M = some f ∧ KS S W μ F H' M.length D f,
        fun σ' H' h => ⟨m - 1, by omega, h⟩, fun x H' y => ?_⟩
      obtain ⟨z, F2, hz, g, rz⟩ := hy.yld i F H x H' ex hM.sub hi y
      have ed : xs.drop i = z :: xs.drop (i + 1) := by
        rw [List.drop_eq_getElem_cons hi]
        rw [List.getElem?_eq_getElem hi] at hz
        rw [Option.some.inj hz]
      rw [ed] at hd
      unfold forL at hd
      cases q1 : t.bind z env with
      | none => rw [q1] at hd; cases hd
      | some env1 =>
        simp only [q1] at hd
        refine ⟨μ, F2, M.length, env, z, env1, hE.aft g.aft, g.sub, rz, q1, fun σ1 hE1 _ => ?_⟩
        have m2 := hM.grow g
        have k2 := hk.weak g.aft
        cases q2 : denSs C ib env1 M with
        | none => rw [q2] at hd; cases hd
        | some h =>
          rw [q2] at hd
          refine ⟨μ, F2, env1, M, h, m2, hE1, q2, ?_⟩
          cases h with
          | nx env2 M2 => exact fun μ' F' H' σ' a mm ee => ⟨by omega, μ', F', env2, M2, f, (ex.trans g.f).trans a.f, mm, ee, hd, k2.weak a⟩
          | ct env2 M2 => exact fun μ' F' H' σ' a mm ee => ⟨by omega, μ', F', env2, M2, f, (ex.trans g.f).trans a.f, mm, ee, hd, k2.weak a⟩
          | bk env2 M2 =>
            cases hd
            exact fun μ' F' H' σ' a mm ee => k2 μ' F' H' σ' a mm ee
          | rt v M2 => cases hd; exact k2
          | ex x env2 M2 => cases hd; exact k2
    · have e : i = xs.length := by omega
      subst e
      rw [List.drop_length] at hd
      unfold forL at hd
      cases hd
      exact .inl ⟨hy.stop F H ex hM.sub, hk μ F H σ Aft.refl hM hE⟩
  · subst e2
    exact ⟨μ, F, env, M, _, hM, hE, e1, fun μ1 F1 H1 c d a m q => hk μ1 F1 H1 σ c d a m (hE.aft a) q⟩

/-! ### comprehensions -/
def rT (S : Sta) (C : Orc) (W : WX) (cs : IEs) : TT := fun σ H Q =>
  ∃ μ F env M r, MemR S μ F M H ∧ EnvR S μ F M.length env σ ∧ denT C cs env M = some r ∧ KB S W μ F H M.length σ Q r
theorem pts_nilI : PTs X [] (rT S C W .nil) := by
  refine ⟨fun pins s σ H Q I q => (pts_nil (X := X)).run pins s σ H Q I ?_⟩
  obtain ⟨μ, F, env, M, r, hM, hE, hd, hk⟩ := q
  unfold denT at hd
  cases hd
  exact hk μ F H Aft.refl hM
theorem pts_oneI {c : Expr} {ic : IE} (h : PT X c (rB S C W ic)) : PTs X [c] (rT S C W (.cons ic .nil)) := by
  refine ⟨fun pins s σ H Q I q => (pts_one h).run pins s σ H Q I ?_⟩
  obtain ⟨μ, F, env, M, r, hM, hE, hd, hk⟩ := q
  unfold denT at hd
  exact ⟨μ, F, env, M, r, hM, hE, hd, hk⟩
theorem wipe_get {σ : Sl} {i : Nat} : ∀ {vs : List Nat}, (L2.wipe σ vs)[i]? = if i ∈ vs ∧ i < σ.length then some none else σ[i]?
  | [] => by simp [L2.wipe]
  | v :: vs => by
    unfold L2.wipe
    have ih := wipe_get (σ := σ) (i := i) (vs := vs)
    by_cases hv : v = i
    · subst hv
      by_cases hl : v < σ.length
      · rw [List.getElem?_set_self (by rw [wipe_length]; exact hl), if_pos ⟨List.mem_cons_self, hl⟩]
      · rw [List.getElem?_eq_none (by rw [List.length_set, wipe_length]; omega), if_neg (fun z => hl z.2), List.getElem?_eq_none (by omega)]
    · rw [List.getElem?_set_ne hv, ih]
      have e : (i ∈ v :: vs ∧ i < σ.length) ↔ (i ∈ vs ∧ i < σ.length) := by
        simp only [List.mem_cons]
        constructor
        · rintro ⟨h | h, h2⟩
          · exact absurd h.symm hv
          · exact ⟨h, h2⟩
        · exact fun h => ⟨.inr h.1, h.2⟩
      by_cases q : i ∈ vs ∧ i < σ.length
      · rw [if_pos q, if_pos (e.mpr q)]
      · rw [if_neg q, if_neg (fun z => q (e.mp z))]
theorem wipe_only {σ σ1 : Sl} {vs sl : List Nat} (h : OnlyAt (L2.wipe σ vs) σ1 sl) (hs : ∀ i ∈ sl, i ∈ vs) : L2.wipe σ1 vs = L2.wipe σ vs := by
  apply List.ext_getElem?
  intro i
  have hl : σ1.length = σ.length := by rw [h.1, wipe_length]
  rw [wipe_get, wipe_get, hl]
  by_cases q : i ∈ vs ∧ i < σ.length
  · rw [if_pos q, if_pos q]
  · rw [if_neg q, if_neg q]
    by_cases hi : i ∈ sl
    · have : ¬ i < σ.length := fun z => q ⟨hs i hi, z⟩
      rw [List.getElem?_eq_none (by omega), List.getElem?_eq_none (by omega)]
    · rw [h.2 i hi, wipe_get, if_neg q]
/-- an object that stands by itself becomes known -/
theorem MemR.more {μ : Nat → Addr} {F H : Hp} {M : Mem} {p : Addr} {o : HO} (h : MemR S μ F M H) (ho : H p = some o) (hf : F p = none) (hn : ∀ n, n < M.length → μ n ≠ p) : MemR S μ (upd F p o) M H ∧ (Ex F (upd F p o) ∧ True) := by
  have ef : Ex F (upd F p o) := Evl.Ex.new hf
  refine ⟨⟨fun a u q => ?_, fun n c q => ?_, h.inj⟩, ef, trivial⟩
  · by_cases hx : a = p
    · subst hx; rw [upd_same] at q; rw [ho]; exact q
    · rw [upd_ne hx] at q; exact h.sub a u q
  · have ne := hn n (List.getElem?_eq_some_iff.mp q).1
    have z := h.cell n c q
    cases c with
    | lst xs => obtain ⟨k1, ws, k2, k3⟩ := z; exact ⟨by rw [upd_ne ne]; exact k1, ws, k2, repL_ex ef _ k3⟩
    | frz xs => obtain ⟨ws, k2, k3⟩ := z; exact ⟨ws, ef _ _ k2, repL_ex ef _ k3⟩
    | tup xs => obtain ⟨ws, o, k2, k3, k4⟩ := z; exact ⟨ws, o, ef _ _ k2, k3, repL_ex ef _ k4⟩
    | ins c fs => obtain ⟨k0, kk, k1, dx, ws, k2, k3, k4⟩ := z; exact ⟨k0, kk, by rw [upd_ne ne]; exact k1, dx, ws, k2, k3, repL_ex ef _ k4⟩
    | gone => exact z
/-- what a list comprehension asks, from its reading -/
theorem rE_lc {t : Tg} {own : List Nat} {it : II} {cs : IEs} {e : IE} (hs : ∀ i ∈ t.slots, i ∈ own) {σ : Sl} {H : Hp} {Q : VK} (q : rE S C W (.lc t own it cs e) σ H Q) :
    tLc (rI S C W it) (rG S t) (rT S C (fun _ _ _ _ => False) cs) (rE S C (fun _ _ _ _ => False) e) own σ H Q := by
  obtain ⟨μ, F, env, M, r, hM, hE, hd, hk⟩ := q
  unfold denE at hd
  rcases bnd_eq hd with ⟨xs, M1, e1, h1⟩ | ⟨x, M1, e1, e2⟩
  rotate_left
  · subst e2
    exact ⟨μ, F, env, M, _, hM, hE, e1, hk⟩
  refine ⟨μ, F, env, M, _, hM, hE, e1, fun μ1 F1 H1 J a1 m1 hy => ?_⟩
  intro Da hDa
  rcases bnd_eq h1 with ⟨zs, Mz, e3, h3⟩ | ⟨x, Mz, e3, h3⟩
  rotate_left
  · exfalso
    -- a comprehension lets nothing out
    have no : ∀ (xs acc : List D) (M : Mem), lcL t (wipeE env own) (denT C cs) (fun env M => bnd (denE C e env M) runHold) xs acc M ≠ some (.ex x Mz) := by
      intro xs
      induction xs with
      | nil => intro acc M h; unfold lcL at h; cases h
      | cons y ys ih =>
        intro acc M h
        unfold lcL at h
        split at h
        · cases h
        · split at h
          · exact ih _ _ h
          · split at h
            · split at h
              · exact ih _ _ h
              · cases h
            · cases h
          · cases h
    exact no _ _ _ e3
  cases h3
  have fD : F1 Da = none := Evl.fresh_back m1.sub hDa
  have g1 : Grow F1 F1 H1 (upd H1 Da (.lst [])) := ⟨Evl.Ex.refl F1, Evl.Ex.new hDa, fun a u q => .inl q, m1.sub.trans (Evl.Ex.new hDa)⟩
  have nD : ∀ n, n < M1.length → μ1 n ≠ Da := fun n hn z => by
    obtain ⟨o, ho⟩ := (m1.cell n _ (List.getElem?_eq_getElem hn)).there m1.sub
    rw [z, hDa] at ho
    cases ho
  refine ⟨fun i m H => i + m = xs.length ∧ ∃ μ F M acc vs, Aft μ1 F1 H1 M1.length μ F H M.length ∧ MemR S μ F M H ∧ H Da = some (.lst vs) ∧ RepL S F acc vs ∧ F Da = none ∧ (∀ n, n < M.length → μ n ≠ Da) ∧
      lcL t (wipeE env own) (denT C cs) (fun env M => bnd (denE C e env M) runHold) (xs.drop i) acc M = some (.ok zs Mz),
    ⟨xs.length, by omega, μ1, F1, M1, [], [], g1.aft, m1.grow g1, upd_same, repL_emp, fD, nD, by simpa using e3⟩, ?_⟩
  rintro i m H ⟨him, μ, F, M, acc, vs, aa, hM, hD, hr, hf, hn, hl⟩
  have aS := a1.trans aa
  by_cases hi : i < xs.length
  · refine .inr ⟨hy.go i F H aa.f hM.sub hi, fun H => (i + 1) + (m - 1) = xs.length ∧ ∃ μ F M acc vs, Aft μ1 F1 H1 M1.length μ F H M.length ∧ MemR S μ F M H ∧ H Da = some (.lst vs) ∧ RepL S F acc vs ∧ F Da = none ∧ (∀ n, n < M.length → μ n ≠ Da) ∧
      lcL t (wipeE env own) (denT C cs) (fun env M => bnd (denE C e env M) runHold) (xs.drop (i + 1)) acc M = some (.ok zs Mz),
      fun H' h => ⟨m - 1, by omega, h⟩, fun x H2 y => ?_⟩
    obtain ⟨z, F2, hz, g, rz⟩ := hy.yld i F H x H2 aa.f hM.sub hi y
    have ed : xs.drop i = z :: xs.drop (i + 1) := by
      rw [List.drop_eq_getElem_cons hi]
      rw [List.getElem?_eq_getElem hi] at hz
      rw [Option.some.inj hz]
    rw [ed] at hl
    unfold lcL at hl
    cases q1 : t.bind z (wipeE env own) with
    | none => rw [q1] at hl; cases hl
    | some env1 =>
      simp only [q1] at hl
      have m2 := hM.grow g
      have a2 := aS.trans g.aft
      have ew := (hE.aft a2).wipe own
      refine ⟨μ, F2, M.length, wipeE env own, z, env1, ew, g.sub, rz, q1, fun σ1 hE1 o1 => ⟨wipe_only o1 hs, ?_⟩⟩
      -- the list that grows stands apart
      have keep : ∀ {μ3 : Nat → Addr} {F3 H3 : Hp} {M3 : Mem}, Aft μ F2 H2 M.length μ3 F3 H3 M3.length → H3 Da = some (.lst vs) ∧ F3 Da = none ∧ ∀ n, n < M3.length → μ3 n ≠ Da := by
        intro μ3 F3 H3 M3 a3
        have hD2 := g.h _ _ hD
        have n3 : ∀ n, n < M3.length → μ3 n ≠ Da := fun n h z => by
          by_cases hk : n < M.length
          · rw [a3.mu n hk] at z; exact hn n hk z
          · have q := a3.new n (by omega) h
            rw [z, hD2] at q
            cases q
        refine ⟨a3.fr _ _ hD2 fun n h z => hn n h z.symm, ?_, n3⟩
        cases q : F3 Da with
        | none => rfl
        | some o =>
          rcases a3.fn _ _ q with z | z | ⟨n, h, z⟩
          · rcases g.new _ _ z with z | z
            · rw [hf] at z; cases z
            · rw [hD] at z; cases z
          · rw [hD2] at z; cases z
          · exact absurd z.symm (n3 n h)
      have a02 : Aft μ1 F1 H1 M1.length μ F2 H2 M.length := aa.trans g.aft
      cases q2 : denT C cs env1 M with
      | none => simp only [q2] at hl; cases hl
      | some rb =>
        cases rb with
        | ex x M3 => simp only [q2] at hl; cases hl
        | ok b M3 =>
          simp only [q2] at hl
          refine ⟨μ, F2, env1, M, _, m2, hE1, q2, fun μ3 F3 H3 a3 m3 => ?_⟩
          obtain ⟨hD3, hF3, n3⟩ := keep a3
          cases b with
          | false =>
            rw [if_neg (by decide)]
            simp only at hl
            exact ⟨by omega, μ3, F3, M3, acc, vs, a02.trans a3, m3, hD3, repL_ex (g.f.trans a3.f) _ hr, hF3, n3, hl⟩
          | true =>
            rw [if_pos rfl]
            simp only at hl
            cases q3 : denE C e env1 M3 with
            | none => simp only [q3, bnd_none] at hl; cases hl
            | some re =>
              cases re with
              | ex x M4 => simp only [q3, bnd_ex] at hl; cases hl
              | ok v M4 =>
                simp only [q3, bnd_ok] at hl
                refine ⟨μ3, F3, env1, M3, _, m3, hE1.aft a3, q3, fun μ4 F4 H4 w a4 m4 rw' => ?_⟩
                obtain ⟨hD4, hF4, n4⟩ := keep (a3.trans a4)
                cases q4 : v.hold M4 with
                | none => simp only [runHold, q4] at hl; cases hl
                | some p =>
                  obtain ⟨y, M5⟩ := p
                  simp only [runHold, q4] at hl
                  obtain ⟨F5, m5, a5, ry⟩ := hold_ok m4 rw' q4
                  obtain ⟨hD5, hF5, n5⟩ := keep ((a3.trans a4).trans a5)
                  split at hl
                  rotate_left
                  · cases hl
                  rename_i hz
                  have hlen : vs.length = acc.length := (repL_len hr).symm
                  refine ⟨vs, hD4, by rw [hlen]; exact hz, by omega, μ4, F5, M5, acc ++ [y], vs ++ [w], ?_, ?_, upd_same, repL_app (repL_ex ((g.f.trans (a3.trans a4).f).trans a5.f) _ hr) (repL_one ry), hF5, n5, hl⟩
                  · -- the store to the list
                    have at5 := ((a02.trans a3).trans a4).trans a5
                    refine ⟨at5.f, at5.le, at5.mu, fun a o q h => ?_, fun a o q => ?_, at5.new, at5.fn⟩
                    · rw [upd_ne (fun z => by rw [z, hDa] at q; cases q)]
                      exact at5.fr a o q h
                    · by_cases hx : a = Da
                      · exact ⟨_, by rw [hx]; exact upd_same⟩
                      · rw [upd_ne hx]; exact at5.dom a o q
                  · refine ⟨Evl.Ex.mut m5.sub hF5, fun n c q => ?_, m5.inj⟩
                    have hnl : n < M5.length := (List.getElem?_eq_some_iff.mp q).1
                    have z := m5.cell n c q
                    have ne := n5 n hnl
                    cases c with
                    | lst xs => obtain ⟨k1, ws, k2, k3⟩ := z; exact ⟨k1, ws, by rw [upd_ne ne]; exact k2, k3⟩
                    | frz xs => exact z
                    | tup xs => exact z
                    | ins c fs => obtain ⟨k0, kk, k1, dx, ws, k2, k3, k4⟩ := z; exact ⟨k0, kk, k1, dx, ws, by rw [upd_ne ne]; exact k2, k3, k4⟩
                    | gone => obtain ⟨u, k1⟩ := z; exact ⟨u, by rw [upd_ne ne]; exact k1⟩
  · have e4 : i = xs.length := by omega
    subst e4
    rw [List.drop_length] at hl
    unfold lcL at hl
    cases hl
    refine .inl ⟨hy.stop F H aa.f hM.sub, ?_⟩
    obtain ⟨m5, a5, _⟩ := hM.more hD hf hn
    refine hk μ _ H (.ref Da) (a1.trans ⟨aa.f.trans a5, aa.le, aa.mu, aa.fr, aa.dom, aa.new, fun a o q => ?_⟩) m5 (rep_lst upd_same (repL_ex a5 _ hr))
    by_cases hx : a = Da
    · exact .inr (.inl (by rw [hx]; exact hDa))
    · rw [upd_ne hx] at q; exact aa.fn a o q
end
end PyI

/-! PyI 8: from the text's tree to the small language; the readings hold. Expressions. -/
namespace PyI
open PySem PySem.Spec PyProof.Rows L2
open Evl (Ex)

/-- what names of the text stand for -/
structure Tb where
  fns : List (Str × Nat) := []
  dfls : List ((Nat × Nat) × List D) := []
  xs : List (Str × Nat) := []
  exs : List (Str × List Nat) := []
  cls : List (Str × (Nat × List Nat)) := []
  news : List (Str × (Nat × Nat × List Nat)) := []
  flds : List (Str × (Nat × List (Nat × Nat))) := []
  props : List (Str × List (Nat × Nat)) := []
  mths : List (Str × List (Nat × Nat)) := []
  cons : List ((Str × Str) × D) := []
  cmts : List ((Str × Str) × (Nat × Nat)) := []
  eqs : List (Nat × Nat) := []
  ups : List (Nat × Nat) := []
  reprs : List (Nat × Nat) := []
  glbs : List (Str × D) := []
  clsv : List (Str × (Nat × Nat × List Nat)) := []
  smts : List ((Str × Str) × (Nat × Nat)) := []
  kwd : List ((Nat × Nat × List Str) × List (Nat ⊕ D)) := []
  eql : List Str := []
structure Ctx where
  N : List Str
  sc : Scope
  top : Bool
  t : Tb
  muts : List Str
  calm : Bool
def Ctx.kind (c : Ctx) (x : Str) : Option NameKind := c.sc.names.lookup x
def slotOf : List Str → Str → Option Nat
  | [], _ => none
  | y :: ys, x => if x = y then some 0 else (slotOf ys x).map (· + 1)
theorem slotOf_get : ∀ {N : List Str} {x : Str} {i : Nat}, slotOf N x = some i → N[i]? = some x
  | [], _, _, h => by cases h
  | y :: ys, x, i, h => by
    unfold slotOf at h
    split at h
    · rename_i e
      cases h
      rw [e] <;> rfl
    · cases q : slotOf ys x with
      | none => rw [q] at h; cases h
      | some j =>
        rw [q] at h
        cases h
        show (y :: ys)[j + 1]? = some x
        rw [List.getElem?_cons_succ]
        exact slotOf_get q
def plainName (x : Str) : Bool := !(x == ("__debug__" : Str)) && !(x == ("__classdict__" : Str)) && !(x == ("__name__" : Str))
def isSeen : Option NameKind → Bool
  | some .local | some .cell | some .free => true
  | _ => false
def Ctx.var (c : Ctx) (x : Str) : Option Nat := if isSeen (c.kind x) && plainName x then slotOf c.N x else none
def Ctx.glb (c : Ctx) (x : Str) : Bool := c.kind x == some .globalImplicit && plainName x
def isStar : Expr → Bool
  | .Starred .. => true
  | _ => false
def isSlice : Expr → Bool
  | .Slice .. => true
  | _ => false
def isComp : Expr → Bool
  | .ListComp .. | .SetComp .. | .DictComp .. => true
  | _ => false
def binOp : Operator → Option Op
  | .Add => some .add | .Sub => some .sub | .Mult => some .mul | .FloorDiv => some .fdiv | .Mod => some .mod | .Pow => some .pow
  | _ => none
def cmpOp : CmpOp → Option Op
  | .Eq => some .eq | .NotEq => some .ne | .In => some .isin | .NotIn => some .notin | .Lt => some .lt | .LtE => some .le | .Gt => some .gt | .GtE => some .ge | .Is => some .is | .IsNot => some .isnot
/-- the built-in functions of several arguments -/
def bltOf (x : Str) (n : Nat) : Option Op :=
  if x = "len" ∧ n = 1 then some .len else if x = "abs" ∧ n = 1 then some .abs else if x = "max" ∧ n = 2 then some .max2 else if x = "min" ∧ n = 2 then some .min2 else if x = "int" ∧ n = 1 then some .int else if x = "sum" ∧ n = 1 then some .sum else if x = "tuple" ∧ n = 1 then some .tuple else if x = "min" ∧ n = 1 then some .minl else if x = "max" ∧ n = 1 then some .maxl else none
def tyNames : List (Str × Ty) := [("int", .int), ("bool", .bool), ("str", .str), ("tuple", .tuple), ("list", .list), ("dict", .dict)]
def Ctx.ty (c : Ctx) : Expr → Option Ty
  | .Name x _ => if c.glb x then match c.t.cls.lookup x with
      | some p => some (.own p.1 p.2)
      | none => tyNames.lookup x
    else none
  | _ => none
def Ctx.tys (c : Ctx) : List Expr → Option (List Ty)
  | [] => some []
  | e :: es => match c.ty e, c.tys es with
    | some t, some ts => some (t :: ts)
    | _, _ => none
def compEs (f : Expr → Option IE) : List Expr → Option IEs
  | [] => some .nil
  | e :: es => if isStar e then none else match f e, compEs f es with
    | some a, some b => some (.cons a b)
    | _, _ => none
def compBool (f : Expr → Option IE) (op : BoolOp) : List Expr → Option IE
  | [] => none
  | [a] => f a
  | a :: b :: r => match f a, compBool f op (b :: r) with
    | some x, some y => some (match op with | .And => .and x y | .Or => .or x y)
    | _, _ => none
mutual
def compTg (c : Ctx) : Nat → Expr → Option Tg
  | 0, _ => none
  | n + 1, .Name x _ => if (c.kind x == some .local || (c.top && c.kind x == some .cell)) && plainName x then (slotOf c.N x).map .nm else none
  | n + 1, .Tuple es _ _ => (compTgs c n es).map .tp
  | _ + 1, _ => none
def compTgs (c : Ctx) : Nat → List Expr → Option (List Tg)
  | 0, _ => none
  | _ + 1, [] => some []
  | n + 1, e :: es => if isStar e then none else match compTg c n e, compTgs c n es with
    | some t, some ts => some (t :: ts)
    | _, _ => none
end
def isTupE : Expr → Bool
  | .Tuple .. => true
  | _ => false
def compI (c : Ctx) (tg : Expr) (f : Expr → Option IE) : Expr → Option II
  | .Call (.Name x p) args [] pos =>
    if x = "enumerate" then if c.glb x && isTupE tg then match args with
        | [a] => if isStar a then none else (f a).map fun ia => .enum (.cons ia .nil)
        | _ => none
      else none
    else if x = "zip" then if c.glb x && isTupE tg then match args with
        | [a, b] => if isStar a || isStar b then none else match f a, f b with
          | some ia, some ib => some (.zip (.cons ia (.cons ib .nil)))
          | _, _ => none
        | _ => none
      else none
    else if x = "range" then if c.glb x then match args with
        | [a] => if isStar a then none else (f a).map fun ia => .range (.cons ia .nil)
        | [a, b] => if isStar a || isStar b then none else match f a, f b with
          | some ia, some ib => some (.range (.cons ia (.cons ib .nil)))
          | _, _ => none
        | _ => none
      else none
    else (f (.Call (.Name x p) args [] pos)).map .seq
  | .Set .. => none
  | e => (f e).map .seq
/-- surely no instance -/
def isPlainE : Expr → Bool
  | .Constant .. | .Tuple .. | .List .. | .Dict .. | .BinOp .. | .UnaryOp .. | .ListComp .. | .JoinedStr .. => true
  | .Call (.Name x _) _ _ _ => x == ("len" : Str) || x == ("abs" : Str) || x == ("int" : Str) || x == ("repr" : Str) || x == ("sum" : Str) || x == ("tuple" : Str) || x == ("list" : Str) || x == ("sorted" : Str)
  | _ => false
def isSet : Expr → Bool
  | .Set .. => true
  | _ => false
/-- an object whose attribute is asked for: no call of a name without arguments -/
def plainObj : Expr → Bool
  | .Call (.Name _ _) [] [] _ => false
  | _ => true
def Ctx.dfl (c : Ctx) (f n : Nat) : List D := (c.t.dfls.lookup (f, n)).getD []
def isEqOp : CmpOp → Bool
  | .Eq | .NotEq => true
  | _ => false
/-- a name of a list of instances -/
def isEql (c : Ctx) : Expr → Bool
  | .Name x _ => c.t.eql.contains x
  | _ => false
/-- a comparison -/
def compCmp (c : Ctx) (f : Expr → Option IE) (a : Expr) (op : CmpOp) (b : Expr) : Option IE :=
  match cmpOp op, f a, f b with
  | some o, some x, some y => if isSet b then none else if isEqOp op && c.calm && (isEql c a || isEql c b) then some (.eql (op == .NotEq) c.t.eqs x y) else if isEqOp op && !isPlainE a && !isPlainE b then (if c.calm then some (.eqo (op == .NotEq) c.t.eqs c.t.ups x y) else none) else some (.op o (.cons x (.cons y .nil)))
  | _, _, _ => none
def compO (f : Expr → Option IE) : Option Expr → Option (Option IE)
  | none => some none
  | some e => (f e).map some
/-- the own names of a comprehension's block -/
def ownOf (N : List Str) : List (Str × NameKind) → List (Str × Nat)
  | [] => []
  | (x, k) :: r => match k with
    | .local | .cell => match slotOf N x with
      | some i => (x, i) :: ownOf N r
      | none => ownOf N r
    | _ => ownOf N r
def Ctx.blk (c : Ctx) (scope : Scope) : Ctx := { c with sc := relS scope c.sc, top := false }
def compLc (c : Ctx) (n : Nat) (f : Ctx → Expr → Option IE) (g : Ctx → Expr → Option IE) (elt tg iter : Expr) (ifs : List Expr) (scope : Scope) : Option IE :=
  match compTg (c.blk scope) n tg, compI c tg (f c) iter, f (c.blk scope) elt with
  | some t, some it, some e =>
    if blkC c.N c.sc scope (ownOf c.N scope.names) && (t.slots.all fun i => decide (i ∈ (ownOf c.N scope.names).map (·.2))) then match ifs with
      | [] => some (.lc t ((ownOf c.N scope.names).map (·.2)) it .nil e)
      | [a] => (g (c.blk scope) a).map fun ia => .lc t ((ownOf c.N scope.names).map (·.2)) it (.cons ia .nil) e
      | _ => none
    else none
  | _, _, _ => none
def kwNames : List Keyword → Option (List Str)
  | [] => some []
  | ⟨some x, _, _⟩ :: r => (kwNames r).map (x :: ·)
  | _ => none
def kwVals : List Keyword → List Expr
  | [] => []
  | ⟨_, e, _⟩ :: r => e :: kwVals r
def mthIE (c : Ctx) (tbl : List (Nat × Nat)) (n : Nat) (io : IE) (ies : IEs) : IE := match tbl with
  | [(_, g)] => .mth tbl (.dfl (c.dfl g (n + 1))) io ies
  | _ => .mth tbl (.dfl []) io ies
/-- o.index(e) -/
def compIdx (f : Expr → Option IE) (ok : Bool) (o : Expr) (args : List Expr) : Option IE :=
  match args with
  | [e] => if ok && !isStar e then (match f o, f e with
    | some io, some ie => some (.idx io ie)
    | _, _ => none) else none
  | _ => none
mutual
def compE : Nat → Ctx → Expr → Option IE
  | 0, _, _ => none
  | n + 1, c, e => match e with
    | .Constant (.int i) _ _ => some (.cst (.int i))
    | .Constant (.bool b) _ _ => some (.cst (.bl b))
    | .Constant .none _ _ => some (.cst .non)
    | .Constant (.str x) _ _ => some (.cst (.str x))
    | .Name x _ => if c.glb x then (c.t.glbs.lookup x).map .cst else (c.var x).map .var
    | .BinOp a op b _ => match binOp op, compE n c a, compE n c b with
      | some o, some x, some y => some (.op o (.cons x (.cons y .nil)))
      | _, _, _ => none
    | .UnaryOp .USub a _ => (compE n c a).map fun x => .op .neg (.cons x .nil)
    | .UnaryOp .Not a _ => (compE n c a).map .not
    | .Compare a [op] [b] _ => compCmp c (compE n c) a op b
    | .Compare a [op, op'] [b, d] _ => if isSet b || isSet d then none else match cmpOp op, cmpOp op', compE n c a, compE n c b, compE n c d with
      | some o, some o', some x, some y, some z => some (.chain o o' x y z)
      | _, _, _, _, _ => none
    | .JoinedStr [v] _ => match v with
      | .FormattedValue e k none _ => if k == -1 && c.calm then (compE n c e).map fun x => .op .fmt (.cons x .nil) else none
      | _ => none
    | .JoinedStr (v1 :: v2 :: rest) _ => if c.calm then (compEs (compE n c) (v1 :: v2 :: rest)).map .fstr else none
    | .FormattedValue e k none _ => if k == -1 && c.calm then (compE n c e).map fun x => .op .fmt (.cons x .nil) else none
    | .Attribute e f _ => if plainObj e then match c.t.flds.lookup f, compE n c e with
        | some p, some x => some (.fld p.1 p.2 x)
        | none, some x => if c.calm then (c.t.props.lookup f).map fun tbl => .prop tbl x else none
        | _, none => match e with
          | .Name x _ => if c.glb x then (c.t.cons.lookup (x, f)).map .cst else none
          | _ => none
      else none
    | .Call (.Attribute (.Name x np) m apos) args [] pos => if c.glb x then (if c.calm && (apos.endLine == pos.line) && decide (args.length < 20) then match c.t.cmts.lookup (x, m), compEs (compE n c) args with
        | some p, some ies => some (.call p.2 (.cons (.cst (.cls p.1)) ies))
        | none, some ies => match args with
          | [] => none
          | _ :: _ => (c.t.smts.lookup (x, m)).map fun p => .call p.2 ies
        | _, _ => none
      else none) else if m = "index" then compIdx (compE n c) (apos.endLine == pos.line) (.Name x np) args else if c.calm && (apos.endLine == pos.line) && decide (args.length < 20) then match c.t.mths.lookup m, compE n c (.Name x np), compEs (compE n c) args with
        | some tbl, some io, some ies => some (mthIE c tbl args.length io ies)
        | _, _, _ => none
      else none
    | .Call (.Attribute o m apos) args [] pos => if m = "index" then compIdx (compE n c) ((apos.endLine == pos.line) && plainObj o) o args else if plainObj o && c.calm && (apos.endLine == pos.line) && decide (args.length < 20) then match c.t.mths.lookup m, compE n c o, compEs (compE n c) args with
        | some tbl, some io, some ies => some (mthIE c tbl args.length io ies)
        | _, _, _ => none
      else none
    | .BoolOp op vs _ => compBool (compE n c) op vs
    | .IfExp t a b _ => match compT n c t, compE n c a, compE n c b with
      | some it, some x, some y => some (.ife it x y)
      | _, _, _ => none
    | .Tuple es _ _ => (compEs (compE n c) es).map (.op .tup)
    | .List es _ => (compEs (compE n c) es).map (.op .lst)
    | .Dict [] [] _ => some (.op .emp .nil)
    | .Subscript a (.Slice lo hi none _) _ => match compE n c a, compO (compE n c) lo, compO (compE n c) hi with
      | some x, some l, some h => some (.op (.slice l.isSome h.isSome) (.cons x (partEs l (partEs h .nil))))
      | _, _, _ => none
    | .Subscript a (.Slice none none (some (.UnaryOp .USub (.Constant (.int 1) _ _) _)) _) _ => (compE n c a).map fun x => .op .rev (.cons x .nil)
    | .Subscript a (.Slice lo hi (some (.UnaryOp .USub (.Constant (.int 1) _ _) _)) _) _ => match compE n c a, compO (compE n c) lo, compO (compE n c) hi with
      | some x, some l, some h => some (.op (.rslice l.isSome h.isSome) (.cons x (partEs l (partEs h .nil))))
      | _, _, _ => none
    | .Subscript a i _ => if isSlice i then none else match compE n c a, compE n c i with
      | some x, some y => some (.op .ix (.cons x (.cons y .nil)))
      | _, _ => none
    | .Call (.Name x _) args [] _ =>
      if c.glb x then match c.t.fns.lookup x with
        | some f => if c.calm then match c.t.dfls.lookup (f, args.length) with
            | some ds => (compEs (compE n c) args).map (.callp f (.dfl ds))
            | none => (compEs (compE n c) args).map (.call f)
          else none
        | none => match c.t.news.lookup x with
        | some p => if c.calm then (compEs (compE n c) args).map (.new p.1 p.2.2 p.2.1 (.dfl (c.dfl p.2.1 (args.length + 1)))) else none
        | none => if x = "repr" then match args with
            | [a] => if isStar a || !c.calm then none else (compE n c a).map (.rpr c.t.reprs)
            | _ => none
          else if x = "isinstance" then match args with
            | [a, .Tuple ts _ _] => if isStar a then none else match compE n c a, c.tys ts with
              | some ia, some l => if l ≠ [] ∧ l.length ≤ 100 then some (.op (.isi l) (.cons ia .nil)) else none
              | _, _ => none
            | [a, t] => if isStar a then none else match compE n c a, c.ty t with
              | some ia, some t => some (.op (.isi [t]) (.cons ia .nil))
              | _, _ => none
            | _ => none
          else match args, bltOf x args.length with
            | _ :: _, some o => if c.calm then (compEs (compE n c) args).map (.op o) else none
            | _, _ => none
      else match c.var x, c.t.clsv.lookup x, args with
        | some i, some p, _ :: _ => if c.calm then (compEs (compE n c) args).map (.newv i p.1 p.2.2 p.2.1 (.dfl (c.dfl p.2.1 (args.length + 1)))) else none
        | _, _, _ => none
    | .Call (.Name x _) (a₀ :: args) (kw :: kws) _ => if c.glb x && c.calm then match c.t.news.lookup x, kwNames (kw :: kws) with
        | some p, some ns => match c.t.kwd.lookup (p.2.1, args.length + 2, ns), compEs (compE n c) (a₀ :: args), compEs (compE n c) (kwVals (kw :: kws)) with
          | some q, some ia, some ik => some (.new p.1 p.2.2 p.2.1 (.by q) (appEs ia ik))
          | _, _, _ => none
        | _, _ => none
      else none
    | .ListComp elt [⟨tg, iter, ifs, 0⟩] scope _ => if c.calm then compLc c n (compE n) (compT n) elt tg iter ifs scope else none
    | _ => none
def compT : Nat → Ctx → Expr → Option IE
  | 0, _, _ => none
  | n + 1, c, e => match e with
    | .UnaryOp .Not a _ => (compT n c a).map .not
    | .BoolOp op vs _ => compBool (compT n c) op vs
    | .IfExp .. => none
    | .Compare a [op] [b] _ => compCmp c (compE n c) a op b
    | .Compare a [op, op'] [b, d] _ => if isSet b || isSet d then none else match cmpOp op, cmpOp op', compE n c a, compE n c b, compE n c d with
      | some o, some o', some x, some y, some z => some (.chain o o' x y z)
      | _, _, _, _, _ => none
    | .Compare .. => none
    | e => compE n c e
end

/-- an own exception's class without __init__, as the top left it -/
structure ExF (K : PySem.W.Frag) (Ca : Addr) : Prop where
  base : ∃ B newId initId bmB, ExcBaseFacts B newId initId bmB ∧ PySem.W.excIn K Ca bmB newId = true
  keep : PySem.W.keepIn K (.ref Ca) = true
  sub : PySem.W.subIn K (.ref Ca) (.type "BaseException") = some true
  ty : PySem.W.typeIn K (.ref Ca) = some (.type "type")
def bltNames : List Str := ["len", "abs", "max", "min", "int", "range", "isinstance", "bool", "str", "tuple", "list", "dict", "sum", "enumerate", "zip", "repr", "sorted", "set", "any", "all", "divmod"]
/-- the tables are right -/
structure TabOk (S : Sta) (mg : Str → Option Value) (t : Tb) : Prop where
  base : BaseF S
  blt : ∀ x, x ∈ bltNames → mg x = none
  fns : ∀ x g, t.fns.lookup x = some g → mg x = some (.ref (S.fa g)) ∧ PySem.W.keepIn S.K (.ref (S.fa g)) = true
  dfl : ∀ p ds, t.dfls.lookup p = some ds → DflF S p.1 ds ∧ S.fix p.1 = true
  xs : ∀ x k, t.xs.lookup x = some k → S.has k = true ∧ mg x = some (.ref (S.ca k)) ∧ ExF S.K (S.ca k)
  exs : ∀ x l, t.exs.lookup x = some l → ∃ Ca, mg x = some (.ref Ca) ∧ ∀ i, S.has i = true → PySem.W.exmOne S.K (.ref (S.ca i)) (.ref Ca) = some (l.contains i)
  cls : ∀ x d cs, t.cls.lookup x = some (d, cs) → mg x = some (.ref (S.ca d)) ∧ OwnTy S d cs
  news : ∀ x c f fl, t.news.lookup x = some (c, f, fl) → S.ih c = true ∧ mg x = some (.ref (S.ca c)) ∧ Mk S.K (S.ca c) (S.fa f) ∧ fl = S.cf c
  flds : ∀ x f cs, t.flds.lookup x = some (f, cs) → FldF S x f cs ∧ ∀ c, S.ih c = true → NoAttr S.K (S.ca c) x
  props : ∀ x tbl, t.props.lookup x = some tbl → PropF S x tbl
  mths : ∀ x tbl, t.mths.lookup x = some tbl → MthF S x tbl
  cons : ∀ x f d, t.cons.lookup (x, f) = some d → isC d = true ∧ ∃ Ca mc u, mg x = some (.ref Ca) ∧ ClX.CRead S.K Ca mc ∧ ClX.CVal S.K Ca mc f (toV d) u
  eqs : EqF S t.eqs t.ups
  reprs : ReprF S t.reprs
  clsv : ∀ x c f fl, t.clsv.lookup x = some (c, f, fl) → S.ih c = true ∧ Mk S.K (S.ca c) (S.fa f) ∧ fl = S.cf c
  cmts : ∀ x m c g, t.cmts.lookup (x, m) = some (c, g) → S.ih c = true ∧ mg x = some (.ref (S.ca c)) ∧ ∃ mc p, ClX.CRead S.K (S.ca c) mc ∧ ClX.CMet S.K (S.ca c) mc m p (S.fa g)
  smts : ∀ x m c g, t.smts.lookup (x, m) = some (c, g) → S.ih c = true ∧ mg x = some (.ref (S.ca c)) ∧ ∃ mc p, ClX.CRead S.K (S.ca c) mc ∧ (SMet S.K (S.ca c) mc m p (S.fa g) ∨ FMet S.K (S.ca c) mc m (S.fa g))
  kwd : ∀ g n ks q, t.kwd.lookup (g, n, ks) = some q → S.fix g = true ∧ (∀ d, Sum.inr d ∈ q → isC d = true) ∧ ∃ gU, KBn S.K (S.fd g) (S.ps g) n ks gU (gVof q)
  glbs : ∀ x d, t.glbs.lookup x = some d → ∃ v u, mg x = some u ∧ RelV v u ∧ ∀ F, RepD S F d v
/-- the defs, at a level -/
structure Runs (S : Sta) (C : Orc) (X : Cx) (k : Nat) : Prop where
  len : ∀ g, S.fix g = true → ∀ as M r, C g as M = some r → as.length = (S.ps g).length
  r : ∀ g, GoR X.prog X.w X.K X.mg X.base (L2.CX X.prog X.w) k (S.fa g) (spF S C g)
  f : ∀ g, S.fix g = true → GoF X.prog X.w X.K X.mg X.base (L2.CX X.prog X.w) k (S.fa g) (S.fd g) (S.ps g) (fun vs H Q E => vs.length = (S.ps g).length ∧ spF S C g vs H Q E)
/-- what is known where code runs -/
structure XOk (S : Sta) (C : Orc) (W : WX) (X : Cx) (c : Ctx) : Prop where
  K : X.K = S.K
  calm : c.calm = true → X.calm = true
  nd : X.N.Nodup
  N : X.N = c.N
  sc : X.env.scope = c.sc
  fn : c.top = true → ∀ x, X.fn x = true
  takes : Takes X W
  units : X.A.units + 200 < cLine
  tab : TabOk S X.mg c.t
  runs : c.calm = true → X.A.guards = some [] ∧ ∃ k, Room (k + 1) X.A ∧ Runs S C X k
/-- what nothing raises, passes -/
theorem quietCT {P : Program} {w : World} (st : List PySem.Env) (H : Hp) (s : Shared) (e : Value) (s' : Shared) (h : L2.CX P w st H s (fun _ _ _ => False) e s') : False := by
  obtain ⟨_, _, _, _, _, _, _, _, _, _, _, _, z⟩ := h
  exact z

section
variable {S : Sta} {C : Orc} {W : WX} {X : Cx} {c : Ctx}
theorem plain_1 {x : Str} (h : plainName x = true) : (x == ("__debug__" : Str)) = false := by
  unfold plainName at h
  simp only [Bool.and_eq_true, Bool.not_eq_true'] at h
  exact h.1.1
theorem plain_2 {x : Str} (h : plainName x = true) : (x == ("__classdict__" : Str)) = false := by
  unfold plainName at h
  simp only [Bool.and_eq_true, Bool.not_eq_true'] at h
  exact h.1.2
theorem plain_3 {x : Str} (h : plainName x = true) : x ≠ "__name__" := by
  unfold plainName at h
  simp only [Bool.and_eq_true, Bool.not_eq_true'] at h
  intro e
  subst e
  have z := h.2
  simp at z
theorem XOk.seen (O : XOk S C W X c) {x : Str} {i : Nat} (h : c.var x = some i) : X.N[i]? = some x ∧ Vis X.env.scope x ∧ plainName x = true := by
  unfold Ctx.var at h
  split at h
  · rename_i q
    rw [Bool.and_eq_true] at q
    refine ⟨by rw [O.N]; exact slotOf_get h, ?_, q.2⟩
    have k := q.1
    unfold Ctx.kind at k
    unfold Vis
    rw [O.sc]
    cases e : c.sc.names.lookup x with
    | none => rw [e] at k; cases k
    | some y =>
      rw [e] at k
      cases y with
      | «local» => exact .inl rfl
      | cell => exact .inr (.inl rfl)
      | free => exact .inr (.inr rfl)
      | globalExplicit => cases k
      | globalImplicit => cases k
  · cases h
theorem XOk.gl (O : XOk S C W X c) {x : Str} (h : c.glb x = true) : Gl X x ∧ plainName x = true := by
  unfold Ctx.glb at h
  rw [Bool.and_eq_true] at h
  refine ⟨?_, h.2⟩
  unfold Gl Env.kindOf
  rw [O.sc]
  exact eq_of_beq h.1
theorem star_of {e : Expr} (h : ¬ isStar e = true) : ∀ y p, e ≠ .Starred y p := by
  intro y p e
  subst e
  exact h rfl
theorem back_any (pos : Pos) (l : List (Bool × Sem Value)) : (backTo pos l).any (·.1) = l.any (·.1) := by
  unfold backTo
  rw [List.any_map]
  rfl
theorem compEs_star {f : Expr → Option IE} {env : PySem.Env} : ∀ {es : List Expr} {ies : IEs}, compEs f es = some ies → (starEach es env).any (·.1) = false
  | [], _, _ => rfl
  | e :: es, ies, h => by
    unfold compEs at h
    split at h
    · cases h
    · rename_i hs
      rw [star_no (star_of hs)]
      split at h
      · rename_i a b h1 h2
        show (false || (starEach es env).any (·.1)) = false
        rw [compEs_star h2] <;> rfl
      · cases h
theorem compEs_ok {f : Expr → Option IE} (ih : ∀ e ie, f e = some ie → PE X e (rE S C W ie)) : ∀ {es : List Expr} {ies : IEs}, compEs f es = some ies → PA X es (rA S C W ies)
  | [], ies, h => by
    unfold compEs at h
    cases h
    exact pa_nilI
  | e :: es, ies, h => by
    unfold compEs at h
    split at h
    · cases h
    · rename_i hs
      split at h
      · rename_i a b h1 h2
        cases h
        exact pa_consI (ih e a h1) (compEs_ok ih h2) (star_of hs)
      · cases h
theorem compBool_ok {f : Expr → Option IE} (ih : ∀ e ie, f e = some ie → PE X e (rE S C W ie)) {op : BoolOp} {pos : Pos} : ∀ {vs : List Expr} {ie : IE}, compBool f op vs = some ie → PE X (.BoolOp op vs pos) (rE S C W ie)
  | [], ie, h => by unfold compBool at h; cases h
  | [a], ie, h => by unfold compBool at h; exact pe_one (ih a ie h)
  | a :: b :: r, ie, h => by
    unfold compBool at h
    split at h
    · rename_i x y h1 h2
      cases h
      cases op with
      | And => exact peI (pe_and (ih a x h1) (compBool_ok ih h2)) fun _ _ _ q => rE_and q
      | Or => exact peI (pe_or (ih a x h1) (compBool_ok ih h2)) fun _ _ _ q => rE_or q
    · cases h
theorem compBool_okT {f : Expr → Option IE} (ih : ∀ e ie, f e = some ie → PT X e (rB S C W ie)) {op : BoolOp} {pos : Pos} : ∀ {vs : List Expr} {ie : IE}, compBool f op vs = some ie → PW X (.BoolOp op vs pos) (rB S C W ie)
  | [], ie, h => by unfold compBool at h; cases h
  | [a], ie, h => by
    unfold compBool at h
    cases op with
    | And => exact pw_and1 (ih a ie h)
    | Or => exact pw_or1 (ih a ie h)
  | a :: b :: r, ie, h => by
    unfold compBool at h
    split at h
    · rename_i x y h1 h2
      cases h
      cases op with
      | And => exact pwI (pw_and (ih a x h1) (compBool_okT ih h2)) fun _ _ _ q => rB_and q
      | Or => exact pwI (pw_or (ih a x h1) (compBool_okT ih h2)) fun _ _ _ q => rB_or q
    · cases h

/-! ### the tables -/
theorem bin_rule (O : XOk S C W X c) {op : Operator} {o : Op} (h : binOp op = some o) : ∃ r, OpR X (binaryOp op) r ∧ Two0 S o r ∧ o.keeps = false := by
  cases op <;> cases h
  · exact ⟨_, opR_or op_add_str (opR_or op_add (opR_or op_cat op_catA)), by rw [O.K]; exact two_add, rfl⟩
  · exact ⟨_, op_sub, two_sub, rfl⟩
  · exact ⟨_, opR_or (opR_or op_mul op_mulW) op_rep, two_mul, rfl⟩
  · exact ⟨_, opR_or op_mod op_modN, two_mod, rfl⟩
  · exact ⟨_, op_pow, two_pow, rfl⟩
  · exact ⟨_, opR_or op_fdivW op_fdivV, two_fdiv, rfl⟩
theorem cmp_rule (O : XOk S C W X c) {op : CmpOp} {o : Op} (h : cmpOp op = some o) : ∃ r, OpR X (compareOp op) r ∧ Two0 S o r ∧ o.keeps = false := by
  cases op <;> cases h
  · exact ⟨_, op_eqD (by have := O.units; omega), by rw [O.K]; exact two_eq, rfl⟩
  · exact ⟨_, op_neD (by have := O.units; omega), by rw [O.K]; exact two_ne, rfl⟩
  · exact ⟨_, opR_or op_lt (op_ltP O.units), by rw [O.K]; exact two_lt, rfl⟩
  · exact ⟨_, op_le, two_le, rfl⟩
  · exact ⟨_, opR_or op_gt (op_gtP O.units), by rw [O.K]; exact two_gt, rfl⟩
  · exact ⟨_, op_ge, two_ge, rfl⟩
  · exact ⟨_, opR_or op_isN (opR_or op_isBl op_isI), two_is, rfl⟩
  · exact ⟨_, opR_or op_notN (opR_or op_notBl op_notI), two_isnot, rfl⟩
  · exact ⟨_, op_inO (by have := O.units; omega), by rw [O.K]; exact two_in, rfl⟩
  · exact ⟨_, op_notinO (by have := O.units; omega), by rw [O.K]; exact two_notin, rfl⟩
theorem callR_or {f : Value} {r r' : List V → Hp → VK → Prop} (h : CallR X f r) (h' : CallR X f r') : CallR X f (fun xs H Q => r xs H Q ∨ r' xs H Q) := by
  intro pins s σ H xs us Q I rr q
  rcases q with q | q
  · exact h pins s σ H xs us Q I rr q
  · exact h' pins s σ H xs us Q I rr q
/-- a built-in function, found by its name -/
theorem blt_rule (O : XOk S C W X c) (hcalm : c.calm = true) {x : Str} {n : Nat} {o : Op} (h : bltOf x n = some o) : ∃ r, X.mg x = none ∧ Many0 S o r ∧ o.keeps = false ∧
    ((∃ id, bootBuiltins x = some (.builtin id) ∧ CallR X (.builtin id) r) ∨ ∃ T, bootBuiltins x = some (.type T) ∧ CallR X (.type T) r) := by
  unfold bltOf at h
  split at h
  · rename_i q; obtain ⟨rfl, _⟩ := q; cases h
    exact ⟨_, O.tab.blt _ (by decide), by rw [O.K]; exact many_len, rfl, .inl ⟨_, by decide +kernel, call_len_seq⟩⟩
  split at h
  · rename_i q; obtain ⟨rfl, _⟩ := q; cases h
    exact ⟨_, O.tab.blt _ (by decide), many_abs, rfl, .inl ⟨_, by decide +kernel, call_abs⟩⟩
  split at h
  · rename_i q; obtain ⟨rfl, _⟩ := q; cases h
    exact ⟨_, O.tab.blt _ (by decide), many_max2, rfl, .inl ⟨_, by decide +kernel, call_max2 (O.calm hcalm)⟩⟩
  split at h
  · rename_i q; obtain ⟨rfl, _⟩ := q; cases h
    exact ⟨_, O.tab.blt _ (by decide), many_min2, rfl, .inl ⟨_, by decide +kernel, call_min2 (O.calm hcalm)⟩⟩
  split at h
  · rename_i q; obtain ⟨rfl, _⟩ := q; cases h
    exact ⟨_, O.tab.blt _ (by decide), many_int, rfl, .inr ⟨_, by decide +kernel, call_int1⟩⟩
  split at h
  · rename_i q; obtain ⟨rfl, _⟩ := q; cases h
    have k := callR_or (cr_sum (O.calm hcalm)) (call_sumB (O.calm hcalm))
    rw [O.K] at k
    exact ⟨_, O.tab.blt _ (by decide), many_sum, rfl, .inl ⟨_, by decide +kernel, k⟩⟩
  split at h
  · rename_i q; obtain ⟨rfl, _⟩ := q; cases h
    have k := call_tupleC (X := X)
    rw [O.K] at k
    exact ⟨_, O.tab.blt _ (by decide), many_tuple, rfl, .inr ⟨_, by decide +kernel, k⟩⟩
  split at h
  · rename_i q; obtain ⟨rfl, _⟩ := q; cases h
    have k := call_minC (O.calm hcalm) O.units
    rw [O.K] at k
    exact ⟨_, O.tab.blt _ (by decide), many_minl, rfl, .inl ⟨_, by decide +kernel, k⟩⟩
  split at h
  · rename_i q; obtain ⟨rfl, _⟩ := q; cases h
    have k := call_maxC (O.calm hcalm) O.units
    rw [O.K] at k
    exact ⟨_, O.tab.blt _ (by decide), many_maxl, rfl, .inl ⟨_, by decide +kernel, k⟩⟩
  · cases h

theorem any_nomark {op : CmpOp} {b : Expr} (h : isSet b = false) : behindInMarks op b = false := by
  cases b <;> first | rfl | cases h
theorem two_nomark {op op' : CmpOp} {b d : Expr} (h : isSet b = false) (h' : isSet d = false) : lastMarks [op, op'] [b, d] = false := by
  show lastMarks [op'] [d] = false
  exact any_nomark h'
/-- a comparison, as a value and as a test -/
theorem cmp_both (O : XOk S C W X c) {f : Expr → Option IE} (ih : ∀ e ie, f e = some ie → PE X e (rE S C W ie)) {a b : Expr} {op : CmpOp} {ie : IE} {pos : Pos} (h : compCmp c f a op b = some ie) :
    PE X (.Compare a [op] [b] pos) (rE S C W ie) ∧ PT X (.Compare a [op] [b] pos) (rB S C W ie) := by
  unfold compCmp at h
  split at h
  · rename_i o x y h1 h2 h3
    split at h
    · cases h
    · rename_i hs
      rw [Bool.not_eq_true] at hs
      split at h
      · rename_i he
        cases h
        simp only [Bool.and_eq_true] at he
        obtain ⟨hg, k, hr, R⟩ := O.runs he.1.2
        have ho : op = if op == .NotEq then .NotEq else .Eq := by
          cases op <;> first | rfl | exact absurd he.1.1 (by decide)
        have r1 := op_eqL (neg := op == .NotEq) O.K O.tab.base O.tab.eqs (CT := L2.CX X.prog X.w) R.r hg hr quietCT
        rw [← ho] at r1
        exact ⟨peI (pe_cmpR r1 (ih a x h2) (ih b y h3) (any_nomark hs)) fun _ _ _ q => rE_eql O.tab.base q,
          ptI (pt_cmpR r1 (ih a x h2) (ih b y h3) (any_nomark hs)) fun _ _ _ q => rE_eql O.tab.base (rB_val q)⟩
      split at h
      · rename_i he
        split at h
        · rename_i hcalm
          cases h
          simp only [Bool.and_eq_true] at he
          obtain ⟨hg, k, hr, R⟩ := O.runs hcalm
          have ho : op = if op == .NotEq then .NotEq else .Eq := by
            cases op <;> first | rfl | exact absurd he.1.1 (by decide)
          have r1 := op_ownEq (neg := op == .NotEq) O.K O.tab.base O.tab.eqs (CT := L2.CX X.prog X.w) R.r hg hr quietCT
          -- or plain data
          have r2 : OpR X (compareOp op) (fun x y H Q => ∃ F, Ex F H ∧ ∃ d e, RepA S F H d x ∧ RepA S F H e y ∧ ∃ z, opD (if (op == .NotEq) = true then .ne else .eq) [d, e] = some z ∧ Gives S F H z Q) := by
            intro pins s σ H x y v u Q I rx ry q
            obtain ⟨F, ex, d, e, hx, hy, z, hz, gv⟩ := q
            cases q2 : (op == CmpOp.NotEq) with
            | false =>
              rw [q2] at ho hz
              have ho : op = .Eq := ho
              subst ho
              obtain ⟨r, p1, p2, p3⟩ := cmp_rule O (op := .Eq) rfl
              exact p1 pins s σ H x y v u Q I rx ry (p2 F H x y d e z Q ex hx hy hz gv)
            | true =>
              rw [q2] at ho hz
              have ho : op = .NotEq := ho
              subst ho
              obtain ⟨r, p1, p2, p3⟩ := cmp_rule O (op := .NotEq) rfl
              exact p1 pins s σ H x y v u Q I rx ry (p2 F H x y d e z Q ex hx hy hz gv)
          rw [← ho] at r1
          have r3 := opR_or r1 r2
          exact ⟨peI (pe_cmpR r3 (ih a x h2) (ih b y h3) (any_nomark hs)) fun _ _ _ q => rE_eqo O.tab.base q,
            ptI (pt_cmpR r3 (ih a x h2) (ih b y h3) (any_nomark hs)) fun _ _ _ q => rE_eqo O.tab.base (rB_val q)⟩
        · cases h
      · cases h
        obtain ⟨r, r1, r2, r3⟩ := cmp_rule O h1
        exact ⟨peI (pe_cmpR r1 (ih a x h2) (ih b y h3) (any_nomark hs)) fun _ _ _ q => rE_two r3 r2 q, ptI (pt_cmpR r1 (ih a x h2) (ih b y h3) (any_nomark hs)) fun _ _ _ q => rE_two r3 r2 (rB_val q)⟩
  · cases h

/-! ### isinstance -/
theorem lookup_mem {α : Type} : ∀ {l : List (Str × α)} {x : Str} {a : α}, l.lookup x = some a → (x, a) ∈ l := fun h => PySem.mem_of_lookup h
theorem ty_rule (O : XOk S C W X c) {e : Expr} {t : Ty} (h : c.ty e = some t) : PE X e (tC (t.v S)) ∧ TyFine S t ∧ ClsV (t.v S) (t.u S) := by
  cases e with
  | Name x p =>
    have h : (if c.glb x = true then match c.t.cls.lookup x with
      | some p => some (.own p.1 p.2)
      | none => tyNames.lookup x
      else none) = some t := h
    split at h
    · rename_i q
      obtain ⟨g, pl⟩ := O.gl q
      cases hc : c.t.cls.lookup x with
      | some p =>
        rw [hc] at h
        cases h
        obtain ⟨h1, h2⟩ := O.tab.cls x p.1 p.2 hc
        exact ⟨pe_glob g h1 (show L2.RelV (V.ref _) _ from rfl) (plain_1 pl), h2, .own _⟩
      | none =>
        rw [hc] at h
        have m := lookup_mem (show tyNames.lookup x = some t from h)
        simp only [tyNames, List.mem_cons, Prod.mk.injEq, List.not_mem_nil, or_false] at m
        have go : ∀ {y : Str} {T : String}, x = y → X.mg y = none → bootBuiltins y = some (.type T) → PE X (.Name x p) (tC (.ty T)) := by
          intro y T e h1 h2
          subst e
          exact pe_bltn g h1 h2 rfl (plain_3 pl) (plain_1 pl)
        rcases m with ⟨e, rfl⟩ | ⟨e, rfl⟩ | ⟨e, rfl⟩ | ⟨e, rfl⟩ | ⟨e, rfl⟩ | ⟨e, rfl⟩
        · exact ⟨go e (O.tab.blt _ (by decide)) (by decide +kernel), trivial, .ty _⟩
        · exact ⟨go e (O.tab.blt _ (by decide)) (by decide +kernel), trivial, .ty _⟩
        · exact ⟨go e (O.tab.blt _ (by decide)) (by decide +kernel), trivial, .ty _⟩
        · exact ⟨go e (O.tab.blt _ (by decide)) (by decide +kernel), trivial, .ty _⟩
        · exact ⟨go e (O.tab.blt _ (by decide)) (by decide +kernel), trivial, .ty _⟩
        · exact ⟨go e (O.tab.blt _ (by decide)) (by decide +kernel), trivial, .ty _⟩
    · cases h
  | _ => cases h
theorem ty_star {e : Expr} {t : Ty} (h : c.ty e = some t) : ∀ y p, e ≠ .Starred y p := by
  intro y p e; subst e; cases h
theorem pe_isi (O : XOk S C W X c) {x : Str} {a t : Expr} {ia : IE} {T : Ty} {p pos : Pos} (hg : c.glb x = true) (hx : x = "isinstance") (ha : PE X a (rE S C W ia)) (hs : ∀ y p, a ≠ .Starred y p) (ht : c.ty t = some T) :
    PE X (.Call (.Name x p) [a, t] [] pos) (rE S C W (.op (.isi [T]) (.cons ia .nil))) := by
  subst hx
  obtain ⟨g, pl⟩ := O.gl hg
  obtain ⟨tr, tf, tc⟩ := ty_rule O ht
  refine peI (pe_callB call_isi g (O.tab.blt _ (by decide)) boot_isinstance (pa_cons ha (pa_cons tr pa_nil (star_no (ty_star ht))) (star_no hs)) (plain_3 pl) (plain_1 pl) (star_no hs) (by rw [back_any, star_no (ty_star ht)] <;> rfl)) fun σ H Q q => ?_
  have q2 := rE_one (r := fun x H Q => ∃ t b, TyX S.K H x t ∧ PySem.W.kitOne S.K t (T.u S) = some b ∧ Q (.bl b) H) rfl (fun F H x d z Q ex hx h gv => ?_) q
  · show rE S C W ia σ H fun x H1 => tC (T.v S) σ H1 fun y H2 => tNil σ H2 fun xs H3 => rIsi X.K (x :: y :: xs) H3 Q
    obtain ⟨μ, F, env, M, r, hM, hE, hd, hk⟩ := q2
    refine ⟨μ, F, env, M, r, hM, hE, hd, ?_⟩
    cases r with
    | ex x M1 => exact hk
    | ok v M1 =>
      intro μ1 F1 H1 w a1 m1 r1
      obtain ⟨t, b, h1, h2, h3⟩ := hk μ1 F1 H1 w a1 m1 r1
      rw [← O.K] at h1 h2
      exact ⟨w, T.v S, t, T.u S, b, rfl, tc, h1, h2, h3⟩
  · have h : (tyAny [T] d).map D.bl = some z := h
    cases q : tyAny [T] d with
    | none => rw [q] at h; cases h
    | some b =>
      rw [q] at h
      cases h
      have e : tyD T d = some b := by
        unfold tyAny at q
        cases e : tyD T d with
        | none => rw [e] at q; cases q
        | some b' =>
          rw [e] at q
          cases b' with
          | true => exact q
          | false => exact q
      obtain ⟨tv, k1, k2, -⟩ := kit_all O.tab.base.ins ex hx (ts := [T]) (by simp) (fun t ht => by rw [List.mem_singleton.mp ht]; exact tf) q
      exact ⟨tv, b, k1, k2 T List.mem_cons_self b e, gv.now ex (rep_bl (S := S) (F := F))⟩
theorem idx_case (O : XOk S C W X c) {f : Expr → Option IE} (ih : ∀ e ie, f e = some ie → PE X e (rE S C W ie)) {o : Expr} {ok : Bool} {args : List Expr} {ie : IE} {apos pos : Pos} (h : compIdx f ok o args = some ie) (hl : ok = true → (apos.endLine == pos.line) = true)
    (hb : ok = true → attributeBase o "index" X.env (eval o X.env) = eval o X.env) : PE X (.Call (.Attribute o "index" apos) args [] pos) (rE S C W ie) := by
  unfold compIdx at h
  split at h
  · rename_i e
    split at h
    · rename_i hq
      rw [Bool.and_eq_true, Bool.not_eq_true'] at hq
      split at h
      · rename_i io ie h1 h2
        cases h
        exact peI (pe_tidx O.units (ih o io h1) (ih e ie h2) (star_of (by rw [hq.2]; decide)) (hb hq.1) (hl hq.1)) fun _ _ _ q => by rw [O.K]; exact rE_idx q
      · cases h
    · cases h
  · cases h
end
end PyI

/-! PyI 9: from the text's tree: targets, what is walked, comprehensions, the whole of an expression. -/
namespace PyI
open PySem PySem.Spec PyProof.Rows L2
open Evl (Ex)
section
variable {S : Sta} {C : Orc} {W : WX} {X : Cx} {c : Ctx}

/-! ### isinstance of several types -/
theorem tyOf_up {K : PySem.W.Frag} {H H' : Hp} (e : Ex H H') {x : V} {t : Value} (h : TyOf K H x t) : TyOf K H' x t := by
  cases h with
  | non => exact .non
  | bl b => exact .bl b
  | int i => exact .int i
  | str i => exact .str i
  | flt i => exact .flt i
  | lst q => exact .lst (e _ _ q)
  | frz q => exact .frz (e _ _ q)
  | tup q => exact .tup (e _ _ q)
  | dK q => exact .dK (e _ _ q)
  | dT q => exact .dT (e _ _ q)
  | ins q a b c d f => exact .ins (e _ _ q) a b c d f
theorem tyX_up {K : PySem.W.Frag} {H H' : Hp} (e : Ex H H') {x : V} {t : Value} (h : TyX K H x t) : TyX K H' x t := by
  cases h with
  | base q => exact .base (tyOf_up e q)
  | byt b => exact .byt b
  | set q => exact .set (e _ _ q)
  | kList q c => exact .kList q c
  | kTuple q c => exact .kTuple q c
  | kDict q c => exact .kDict q c
  | fTuple q => exact .fTuple (e _ _ q)
  | fDict q => exact .fDict (e _ _ q)
def tTys (S : Sta) : List Ty → TA
  | [] => tNil
  | t :: ts => tCons (tC (t.v S)) (tTys S ts)
theorem tTys_of : ∀ {ts : List Ty} {σ : Sl} {H : Hp} {Q : List V → Hp → Prop}, Q (ts.map fun t => t.v S) H → tTys S ts σ H Q
  | [], _, _, _, q => q
  | t :: ts, σ, H, Q, q => tTys_of (ts := ts) (Q := fun xs H2 => Q (t.v S :: xs) H2) q
theorem tys_rule (O : XOk S C W X c) : ∀ {es : List Expr} {ts : List Ty}, c.tys es = some ts → PA X es (tTys S ts) ∧ (∀ t ∈ ts, TyFine S t) ∧ Paired ClsV (ts.map fun t => t.v S) (ts.map fun t => t.u S)
  | [], ts, h => by
    unfold Ctx.tys at h
    cases h
    exact ⟨pa_nil, (by intro t ht; cases ht), .nil⟩
  | e :: es, ts, h => by
    unfold Ctx.tys at h
    split at h
    · rename_i t r h1 h2
      cases h
      obtain ⟨a1, a2, a3⟩ := ty_rule O h1
      obtain ⟨b1, b2, b3⟩ := tys_rule O h2
      refine ⟨pa_cons a1 b1 (star_no (ty_star h1)), fun u hu => ?_, .cons a3 b3⟩
      rcases List.mem_cons.mp hu with rfl | hu
      · exact a2
      · exact b2 u hu
    · cases h
theorem pe_isiT (O : XOk S C W X c) {x : Str} {a : Expr} {es : List Expr} {ia : IE} {ts : List Ty} {p pos p2 : Pos} {k2 : Nat} (hg : c.glb x = true) (hx : x = "isinstance") (ha : PE X a (rE S C W ia)) (hs : ∀ y p, a ≠ .Starred y p) (ht : c.tys es = some ts) (hne : ts ≠ []) (hz : ts.length ≤ sizeLine) :
    PE X (.Call (.Name x p) [a, .Tuple es k2 p2] [] pos) (rE S C W (.op (.isi ts) (.cons ia .nil))) := by
  subst hx
  obtain ⟨g, pl⟩ := O.gl hg
  obtain ⟨tr, tf, tc⟩ := tys_rule O ht
  have ns : ∀ y p, Expr.Tuple es k2 p2 ≠ .Starred y p := fun _ _ e => by cases e
  refine peI (pe_callB call_isiT g (O.tab.blt _ (by decide)) boot_isinstance (pa_cons ha (pa_cons (pe_tup tr) pa_nil (star_no ns)) (star_no hs)) (plain_3 pl) (plain_1 pl) (star_no hs) (by rw [back_any, star_no ns] <;> rfl)) fun σ H Q q => ?_
  have q2 := rE_one (r := fun x H Q => ∀ tp, H tp = none → ∃ t b, TyX S.K (upd H tp (.tup (ts.map fun t => t.v S))) x t ∧ PySem.W.kitAny S.K t (ts.map fun t => t.u S) = some b ∧ Q (.bl b) (upd H tp (.tup (ts.map fun t => t.v S)))) rfl (fun F H x d z Q ex hx h gv tp htp => ?_) q
  · show rE S C W ia σ H fun x H1 => tTup (tTys S ts) σ H1 fun y H2 => tNil σ H2 fun xs H3 => rIsiT X.K (x :: y :: xs) H3 Q
    obtain ⟨μ, F, env, M, r, hM, hE, hd, hk⟩ := q2
    refine ⟨μ, F, env, M, r, hM, hE, hd, ?_⟩
    cases r with
    | ex x M1 => exact hk
    | ok v M1 =>
      intro μ1 F1 H1 w a1 m1 r1
      refine tTys_of ⟨by rw [List.length_map]; exact hz, fun tp htp => ?_⟩
      obtain ⟨t, b, h1, h2, h3⟩ := hk μ1 F1 H1 w a1 m1 r1 tp htp
      rw [← O.K] at h1 h2
      exact ⟨w, tp, _, t, _, b, rfl, upd_same, tc, h1, h2, h3⟩
  · have h : (tyAny ts d).map D.bl = some z := h
    cases q : tyAny ts d with
    | none => rw [q] at h; cases h
    | some b =>
      rw [q] at h
      cases h
      have gr : Grow F (upd F tp (.tup (ts.map fun t => t.v S))) H (upd H tp (.tup (ts.map fun t => t.v S))) := Grow.one ex _ htp
      obtain ⟨tv, k1, -, k2⟩ := kit_all O.tab.base.ins ex hx hne tf q
      exact ⟨tv, b, tyX_up gr.h k1, k2 b q, gv _ _ _ gr (rep_bl (S := S))⟩

/-! ### targets -/
theorem compTg_both (O : XOk S C W X c) (hcalm : c.calm = true) : ∀ n : Nat, (∀ e t, compTg c n e = some t → PG X e (rG S t)) ∧ (∀ es ts, compTgs c n es = some ts → PGs X es (rGs S ts) ∧ (assignEach es X.env).length = ts.length ∧ (assignEach es X.env).findIdx? (·.1) = none)
  | 0 => ⟨fun e t h => by simp [compTg] at h, fun es ts h => by simp [compTgs] at h⟩
  | n + 1 => by
    obtain ⟨ih1, ih2⟩ := compTg_both O hcalm n
    refine ⟨fun e t h => ?_, fun es ts h => ?_⟩
    · cases e with
      | Name x p =>
        unfold compTg at h
        split at h
        · rename_i q
          rw [Bool.and_eq_true, Bool.or_eq_true, Bool.and_eq_true] at q
          obtain ⟨q, pl⟩ := q
          cases e1 : slotOf c.N x with
          | none => rw [e1] at h; cases h
          | some i =>
            rw [e1] at h
            cases h
            have hN : X.N[i]? = some x := by rw [O.N]; exact slotOf_get e1
            rcases q with q | ⟨q1, q2⟩
            · have k : X.env.scope.names.lookup x = some .local := by rw [O.sc]; exact eq_of_beq q
              exact pg_nmI O.nd hN (.inl k) (.inr k)
            · have k : X.env.scope.names.lookup x = some .cell := by rw [O.sc]; exact eq_of_beq q2
              exact pg_nmI O.nd hN (.inr k) (.inl (O.fn q1 x))
        · cases h
      | Tuple es k p =>
        unfold compTg at h
        cases e1 : compTgs c n es with
        | none => rw [e1] at h; cases h
        | some ts =>
          rw [e1] at h
          cases h
          obtain ⟨h1, h2, h3⟩ := ih2 es ts e1
          exact pg_tpI O.K (O.calm hcalm) h1 h2 h3
      | _ => unfold compTg at h; cases h
    · cases es with
      | nil =>
        unfold compTgs at h
        cases h
        exact ⟨pgs_nilI, rfl, rfl⟩
      | cons e es =>
        unfold compTgs at h
        split at h
        · cases h
        · rename_i hs
          split at h
          · rename_i t ts h1 h2
            cases h
            obtain ⟨k1, k2, k3⟩ := ih2 es ts h2
            refine ⟨pgs_consI (ih1 e t h1) k1 (star_of hs), ?_, ?_⟩
            · rw [assign_no (star_of hs), List.length_cons, List.length_cons, k2]
            · rw [assign_no (star_of hs), List.findIdx?_cons]
              simp only [Bool.false_eq_true, if_false, k3, Option.map_none]
          · cases h

/-! ### what is walked -/
theorem compI_ok (O : XOk S C W X c) {f : Expr → Option IE} (ih : ∀ e ie, f e = some ie → PE X e (rE S C W ie)) {tg e : Expr} {it : II} (h : compI c tg f e = some it) : PI X tg e (rI S C W it) ∧ ∀ x, foldedSetIterable e X.env x = pure x := by
  have seq : ∀ e', (∀ elts k p, e' ≠ .Set elts k p) → (f e').map II.seq = some it → PI X tg e' (rI S C W it) ∧ ∀ x, foldedSetIterable e' X.env x = pure x := by
    intro e' hn h
    cases q : f e' with
    | none => rw [q] at h; cases h
    | some ie =>
      rw [q] at h
      cases h
      refine ⟨pi_seqJ O.K (ih e' ie q), fun x => ?_⟩
      cases e' <;> first | rfl | exact absurd rfl (hn _ _ _)
  unfold compI at h
  split at h
  · rename_i x p args pos
    split at h
    · rename_i hx
      subst hx
      split at h
      · rename_i hg
        rw [Bool.and_eq_true] at hg
        obtain ⟨g, pl⟩ := O.gl hg.1
        split at h
        · rename_i a
          split at h
          · cases h
          · rename_i hs
            cases q : f a with
            | none => rw [q] at h; cases h
            | some ia =>
              rw [q] at h
              cases h
              have ht := hg.2
              cases tg with
              | Tuple elts kk tpos => exact ⟨pi_enumJ O.K g (O.tab.blt _ (by decide)) (pa_consI (ih a ia q) pa_nilI (star_of hs)) (star_of hs), fun _ => rfl⟩
              | _ => cases ht
        · cases h
      · cases h
    split at h
    · rename_i hx
      subst hx
      split at h
      · rename_i hg
        rw [Bool.and_eq_true] at hg
        obtain ⟨g, pl⟩ := O.gl hg.1
        split at h
        · rename_i a b
          split at h
          · cases h
          · rename_i hs
            rw [Bool.or_eq_true, not_or] at hs
            split at h
            · rename_i ia ib h1 h2
              cases h
              have ht := hg.2
              cases tg with
              | Tuple elts kk tpos => exact ⟨pi_zipJ O.K g (O.tab.blt _ (by decide)) (pa_consI (ih a ia h1) (pa_consI (ih b ib h2) pa_nilI (star_of hs.2)) (star_of hs.1)) (star_of hs.1) (star_of hs.2), fun _ => rfl⟩
              | _ => cases ht
            · cases h
        · cases h
      · cases h
    split at h
    · rename_i hx
      subst hx
      split at h
      · rename_i hg
        obtain ⟨g, pl⟩ := O.gl hg
        split at h
        · rename_i a
          split at h
          · cases h
          · rename_i hs
            cases q : f a with
            | none => rw [q] at h; cases h
            | some ia =>
              rw [q] at h
              cases h
              exact ⟨pi_rng1J g (O.tab.blt _ (by decide)) (pa_consI (ih a ia q) pa_nilI (star_of hs)) (star_of hs), fun _ => rfl⟩
        · rename_i a b
          split at h
          · cases h
          · rename_i hs
            rw [Bool.or_eq_true, not_or] at hs
            split at h
            · rename_i ia ib h1 h2
              cases h
              exact ⟨pi_rng2J g (O.tab.blt _ (by decide)) (pa_consI (ih a ia h1) (pa_consI (ih b ib h2) pa_nilI (star_of hs.2)) (star_of hs.1)) (star_of hs.1) (star_of hs.2), fun _ => rfl⟩
            · cases h
        · cases h
      · cases h
    · exact seq _ (fun _ _ _ e => by cases e) h
  · cases h
  · rename_i hn
    exact seq e (fun a k p e => hn a k p e) h

/-! ### comprehensions -/
theorem XOk.blk (O : XOk S C W X c) (scope : Scope) (s : Shared) (H : Hp) (Ca : Addr) (cl : List (Str × Addr)) (fp : List Addr) :
    XOk S C (fun _ _ _ _ => False) (X.blk s H scope (compEnvC scope cl Ca X.env) fp) (c.blk scope) where
  K := O.K
  calm := O.calm
  nd := O.nd
  N := O.N
  sc := by
    show relS scope X.env.scope = relS scope c.sc
    rw [O.sc]
  fn := fun h => by cases h
  takes := takes0
  units := O.units
  tab := O.tab
  runs := fun h => by
    obtain ⟨hg, k, hr, R⟩ := O.runs h
    exact ⟨hg, k, hr, ⟨R.len, R.r, R.f⟩⟩
theorem compLc_ok (O : XOk S C W X c) (hcalm : c.calm = true) {n : Nat} {f g : Ctx → Expr → Option IE}
    (ihf : ∀ (X : Cx) (W : WX) (c : Ctx), XOk S C W X c → ∀ e ie, f c e = some ie → PE X e (rE S C W ie)) (ihg : ∀ (X : Cx) (W : WX) (c : Ctx), XOk S C W X c → ∀ e ie, g c e = some ie → PT X e (rB S C W ie))
    {elt tg iter : Expr} {ifs : List Expr} {scope : Scope} {ie : IE} (h : compLc c n f g elt tg iter ifs scope = some ie) :
    ∃ (t : Tg) (own : List (Str × Nat)) (it : II) (cs : IEs) (e : IE), ie = .lc t (own.map (·.2)) it cs e ∧ BlkOk X.N X.env.scope scope own ∧ (∀ i ∈ t.slots, i ∈ own.map (·.2)) ∧ PI X tg iter (rI S C W it) ∧ (∀ x, foldedSetIterable iter X.env x = pure x) ∧
      (∀ (s : Shared) (H : Hp) (Ca : Addr) (cl : List (Str × Addr)) (fp : List Addr), PG (X.blk s H scope (compEnvC scope cl Ca X.env) fp) tg (rG S t)) ∧
      (∀ (s : Shared) (H : Hp) (Ca : Addr) (cl : List (Str × Addr)) (fp : List Addr), PTs (X.blk s H scope (compEnvC scope cl Ca X.env) fp) ifs (rT S C (fun _ _ _ _ => False) cs)) ∧
      (∀ (s : Shared) (H : Hp) (Ca : Addr) (cl : List (Str × Addr)) (fp : List Addr), PE (X.blk s H scope (compEnvC scope cl Ca X.env) fp) elt (rE S C (fun _ _ _ _ => False) e)) := by
  unfold compLc at h
  split at h
  · rename_i t it e h2 h3 h4
    split at h
    · rename_i hb
      generalize ownOf c.N scope.names = own at h hb
      rw [Bool.and_eq_true, List.all_eq_true] at hb
      have bo : BlkOk X.N X.env.scope scope own := by rw [O.N, O.sc]; exact blkOk_by hb.1
      have sl : ∀ i ∈ t.slots, i ∈ own.map (·.2) := fun i hi => of_decide_eq_true (hb.2 i hi)
      obtain ⟨p1, p2⟩ := compI_ok (tg := tg) O (ihf X W c O) h3
      split at h
      · cases h
        exact ⟨t, own, it, .nil, e, rfl, bo, sl, p1, p2, fun s H Ca cl fp => (compTg_both (O.blk scope s H Ca cl fp) hcalm n).1 tg t h2, fun s H Ca cl fp => pts_nilI, fun s H Ca cl fp => ihf _ _ _ (O.blk scope s H Ca cl fp) elt e h4⟩
      · rename_i a
        cases q : g (c.blk scope) a with
        | none => rw [q] at h; cases h
        | some ia =>
          rw [q] at h
          cases h
          exact ⟨t, own, it, .cons ia .nil, e, rfl, bo, sl, p1, p2, fun s H Ca cl fp => (compTg_both (O.blk scope s H Ca cl fp) hcalm n).1 tg t h2, fun s H Ca cl fp => pts_oneI (ihg _ _ _ (O.blk scope s H Ca cl fp) a ia q),
            fun s H Ca cl fp => ihf _ _ _ (O.blk scope s H Ca cl fp) elt e h4⟩
      · cases h
    · cases h
  · cases h

/-! ### objects -/
theorem plainObj_hb {o : Expr} {m : Str} {env : PySem.Env} (h : plainObj o = true) : attributeBase o m env (eval o env) = eval o env := by
  unfold attributeBase
  split
  · rename_i id p pos
    cases h
  · rfl
theorem flags_no {f : Expr → Option IE} {env : PySem.Env} : ∀ {es : List Expr} {ies : IEs}, compEs f es = some ies → (starEach es env).all (fun p => !p.1) = true
  | [], _, _ => rfl
  | e :: es, ies, h => by
    unfold compEs at h
    split at h
    · cases h
    · rename_i hs
      rw [star_no (star_of hs)]
      split at h
      · rename_i a b h1 h2
        show (true && (starEach es env).all _) = true
        rw [flags_no h2] <;> rfl
      · cases h
theorem callsAttr_of {o : Expr} {m : Str} {apos pos : Pos} {args : List Expr} {f : Expr → Option IE} {ies : IEs} {env : PySem.Env} (hb : attributeBase o m env (eval o env) = eval o env) (he : compEs f args = some ies) (hl : (apos.endLine == pos.line) = true) (hn : args.length < 20) :
    CallsAttr o m apos pos args env (do return (← importBound o env).getD true) := by
  have few : methodCallForm (args.length + 0) (backTo pos (starEach args env)) (backToKw pos (keywordEach [] env)) = true := by
    unfold methodCallForm
    have e1 : (backTo pos (starEach args env)).all (fun p => !p.1) = true := by
      have := flags_no (env := env) he
      unfold backTo
      rw [List.all_map]
      exact this
    simp only [e1, Bool.true_and]
    show (true && decide (args.length + 0 + 0 < 30)) = true
    simp
    omega
  show (do
    let ov ← attributeBase o m env (eval o env)
    standAt apos.atName
    methodCall o m apos pos env ov (args.length + 0) (backTo pos (starEach args env)) (backToKw pos (keywordEach [] env))) = _
  rw [hb]
  unfold methodCall
  rw [few]
  have e2 : methodCallPos true o env apos pos = pure pos := by
    unfold methodCallPos
    rw [hl]
    rfl
  rw [e2]
  simp only [pure_bind]
  rfl
/-- a def with the last arguments left out, as a promise -/
theorem gor_dfl (O : XOk S C W X c) {k g : Nat} {ds : List D} (R : Runs S C X k) (h : ds = [] ∨ (DflF S g ds ∧ S.fix g = true)) : GoR X.prog X.w X.K X.mg X.base (L2.CX X.prog X.w) k (S.fa g) (spD S C g ds) := by
  rcases h with rfl | ⟨⟨hc, us, hb, hv⟩, hf⟩
  · exact (R.r g).imp fun vs H Q E h => by
      have h : spF S C g (vs ++ []) H Q E := h
      rwa [List.append_nil] at h
  · refine ((R.f g hf).raw (by rw [O.K]; exact hb) hv).imp fun vs H Q E h => ⟨?_, h⟩
    obtain ⟨μ, F, as, M, r, hM, hvs, hC, -⟩ := id h
    rw [← hvs.len]
    exact R.len g hf as M r hC
theorem dfl_cases (O : XOk S C W X c) (f n : Nat) : (∀ d ∈ c.dfl f n, isC d = true) ∧ (c.dfl f n = [] ∨ (DflF S f (c.dfl f n) ∧ S.fix f = true)) := by
  unfold Ctx.dfl
  cases h : c.t.dfls.lookup (f, n) with
  | none => exact ⟨(by intro d hd; cases hd), .inl rfl⟩
  | some ds =>
    obtain ⟨h1, h2⟩ := O.tab.dfl (f, n) ds h
    exact ⟨h1.1, .inr ⟨h1, h2⟩⟩

theorem pj_of {f : Expr → Option IE} (ih : ∀ e ie, f e = some ie → PE X e (rE S C W ie)) : ∀ {es : List Expr} {ies : IEs}, compEs f es = some ies → PJ X es (rEsL S C W ies)
  | [], ies, h => by
    unfold compEs at h
    cases h
    exact .nil
  | e :: es, ies, h => by
    unfold compEs at h
    split at h
    · cases h
    · split at h
      · rename_i a b h1 h2
        cases h
        exact .cons (ih e a h1) (pj_of ih h2)
      · cases h
theorem po_of {f : Expr → Option IE} (ih : ∀ e ie, f e = some ie → PE X e (rE S C W ie)) : ∀ {o : Option Expr} {l : Option IE}, compO f o = some l → PO X o (tPartI S C W l)
  | none, l, h => by
    cases h
    exact po_none
  | some e, l, h => by
    have h : (f e).map some = some l := h
    cases q : f e with
    | none => rw [q] at h; cases h
    | some x =>
      rw [q] at h
      cases h
      exact po_some (ih e x q)
theorem peCR {x : Str} {np pos : Pos} {e : Expr} {es : List Expr} {ies : IEs} {f : Expr → Option IE} (h : compEs f (e :: es) = some ies) : starEach (e :: es) X.env = (false, eval e X.env) :: starEach es X.env ∧ (backTo pos (starEach es X.env)).any (·.1) = false := by
  have hs : ¬ isStar e = true := by
    intro z
    unfold compEs at h
    rw [if_pos z] at h
    cases h
  have hst := compEs_star (env := X.env) h
  rw [star_no (star_of hs)] at hst
  exact ⟨star_no (star_of hs), by rw [back_any]; exact hst⟩

theorem rE_mono {e : IE} {σ : Sl} {H : Hp} {Q Q' : VK} (i : ∀ v H', Q v H' → Q' v H') (q : rE S C W e σ H Q) : rE S C W e σ H Q' := by
  obtain ⟨μ, F, env, M, r, hM, hE, hd, hk⟩ := q
  refine ⟨μ, F, env, M, r, hM, hE, hd, ?_⟩
  cases r with
  | ok v M1 => exact fun μ' F' H' w a m r => i _ _ (hk μ' F' H' w a m r)
  | ex x M1 => exact hk
theorem rA_nil {σ : Sl} {H : Hp} {Q : List V → Hp → Prop} (q : rA S C W .nil σ H Q) : Q [] H := by
  obtain ⟨μ, F, env, M, r, hM, hE, hd, hk⟩ := q
  unfold denEs at hd
  cases hd
  exact hk μ F H [] Aft.refl hM trivial
theorem gom_nil {ι : Type} {ok : ι → Prop} {Ca : ι → Addr} {m : Str} {sp : ι → Sp} {E : Sl → XK} {o : IE} {σ : Sl} {H : Hp} {Q : VK} (q : tGom ok Ca m sp E (rE S C W o) (rA S C W .nil) σ H Q) : tGom ok Ca m sp E (rE S C W o) tNil σ H Q :=
  rE_mono (fun v H' ⟨i, a, dx, fs, h1, h2, h3, h4, h5⟩ => ⟨i, a, dx, fs, h1, h2, h3, h4, rA_nil h5⟩) q
theorem gon_nil {Ca : Addr} {sp : Sp} {E : Sl → XK} {σ : Sl} {H : Hp} {Q : VK} (q : tGon Ca sp E (rA S C W .nil) σ H Q) : tGon Ca sp E tNil σ H Q :=
  rA_nil q

theorem kw_facts {env : PySem.Env} {pos : Pos} : ∀ {kws : List Keyword} {ns : List Str}, kwNames kws = some ns → (backToKw pos (keywordEach kws env)).all (·.1.isSome) = true ∧ (backToKw pos (keywordEach kws env)).filterMap (·.1) = ns ∧ (backToKw pos (keywordEach kws env)).any (·.1.isNone) = false ∧ ns.length = (kwVals kws).length
  | [], ns, h => by
    cases h
    exact ⟨rfl, rfl, rfl, rfl⟩
  | ⟨some x, e, p⟩ :: r, ns, h => by
    have h : (kwNames r).map (x :: ·) = some ns := h
    cases q : kwNames r with
    | none => rw [q] at h; cases h
    | some ns2 =>
      rw [q] at h
      cases h
      obtain ⟨h1, h2, h3, h4⟩ := kw_facts (env := env) (pos := pos) q
      refine ⟨?_, ?_, ?_, ?_⟩
      · show (true && (backToKw pos (keywordEach r env)).all _) = true
        rw [h1] <;> rfl
      · show x :: (backToKw pos (keywordEach r env)).filterMap _ = _
        rw [h2]
      · show (false || (backToKw pos (keywordEach r env)).any _) = false
        rw [h3] <;> rfl
      · show ns2.length + 1 = (kwVals r).length + 1
        rw [h4]
  | ⟨none, e, p⟩ :: r, ns, h => by cases h
theorem pk_of {f : Expr → Option IE} (ih : ∀ e ie, f e = some ie → PE X e (rE S C W ie)) : ∀ {kws : List Keyword} {ies : IEs}, compEs f (kwVals kws) = some ies → PK X kws (rA S C W ies)
  | [], ies, h => by
    cases h
    exact ⟨fun pos pins s σ H Q I q => pk_nil.run pos pins s σ H Q I (rA_nil q)⟩
  | ⟨nm, e, p⟩ :: r, ies, h => by
    have h : compEs f (e :: kwVals r) = some ies := h
    unfold compEs at h
    split at h
    · cases h
    · split at h
      · rename_i a b h1 h2
        cases h
        have k := pk_cons (nm := nm) (kpos := p) (ih e a h1) (pk_of ih h2)
        have pa : ∀ σ H Q, rA S C W (.cons a b) σ H Q → tCons (rE S C W a) (rA S C W b) σ H Q := fun σ H Q q => by
          obtain ⟨μ, F, env, M, r, hM, hE, hd, hk⟩ := q
          unfold denEs at hd
          rcases bnd_eq hd with ⟨v, M1, e1, h1⟩ | ⟨x, M1, e1, e2⟩
          · refine ⟨μ, F, env, M, _, hM, hE, e1, fun μ1 F1 H1 w a1 m1 q1 => ?_⟩
            rcases bnd_eq h1 with ⟨us, M2, e2, h2⟩ | ⟨x, M2, e2, h2⟩
            · refine ⟨μ1, F1, env, M1, _, m1, hE.aft a1, e2, fun μ2 F2 H2 ws a2 m2 q2 => ?_⟩
              have h2 := Option.some.inj h2
              subst h2
              exact hk μ2 F2 H2 (w :: ws) (a1.trans a2) m2 ⟨q1.aft a2, q2⟩
            · subst h2
              exact ⟨μ1, F1, env, M1, _, m1, hE.aft a1, e2, hk.weak a1⟩
          · subst e2
            exact ⟨μ, F, env, M, _, hM, hE, e1, hk⟩
        exact ⟨fun pos pins s σ H Q I q => k.run pos pins s σ H Q I (pa σ H Q q)⟩
      · cases h
theorem es_len {f : Expr → Option IE} {env : Env} : ∀ {es : List Expr} {ies : IEs} {M M1 : Mem} {vs : List Val}, compEs f es = some ies → denEs C ies env M = some (.ok vs M1) → vs.length = es.length
  | [], ies, M, M1, vs, h, d => by
    unfold compEs at h
    cases h
    unfold denEs at d
    cases d
    rfl
  | e :: es, ies, M, M1, vs, h, d => by
    unfold compEs at h
    split at h
    · cases h
    · split at h
      · rename_i a b h1 h2
        cases h
        unfold denEs at d
        rcases bnd_eq d with ⟨v, M2, d1, d2⟩ | ⟨x, M2, d1, d2⟩
        · rcases bnd_eq d2 with ⟨ws, M3, d3, d4⟩ | ⟨x, M3, d3, d4⟩
          · cases d4
            rw [List.length_cons, List.length_cons, es_len h2 d3]
          · cases d4
        · cases d2
      · cases h
theorem mth_case (O : XOk S C W X c) (hcalm : c.calm = true) {f : Expr → Option IE} (ih : ∀ e ie, f e = some ie → PE X e (rE S C W ie)) {o : Expr} {m : Str} {apos pos : Pos} {args : List Expr} {tbl : List (Nat × Nat)} {io : IE} {ies : IEs} (hp : plainObj o = true) (hline : (apos.endLine == pos.line) = true)
    (hlen : args.length < 20) (h1 : c.t.mths.lookup m = some tbl) (h2 : f o = some io) (h3 : compEs f args = some ies) : PE X (.Call (.Attribute o m apos) args [] pos) (rE S C W (mthIE c tbl args.length io ies)) := by
            obtain ⟨hg, kk, hr, R⟩ := O.runs hcalm
            have mf := O.tab.mths m tbl h1
            have hb := plainObj_hb (m := m) (env := X.env) hp
            have go : ∀ ds : List D, (∀ d ∈ ds, isC d = true) → (∀ i, okT S tbl i → ds = [] ∨ (DflF S i.2 ds ∧ S.fix i.2 = true)) → PE X (.Call (.Attribute o m apos) args [] pos) (rE S C W (.mth tbl (.dfl ds) io ies)) := by
              intro ds hds hdf
              have rule : ∀ i, okT S tbl i → Cls X.K (S.ca i.1) ∧ Meth X.K (S.ca i.1) m (S.fa i.2) ∧ GoR X.prog X.w X.K X.mg X.base (L2.CX X.prog X.w) kk (S.fa i.2) (spD S C i.2 ds) := by
                intro i oi
                have hI := (O.tab.base.ins i.1 oi.2).cl
                have hM := mf.at_ i.1 i.2 oi.1 oi.2
                rw [← O.K] at hI hM
                exact ⟨hI, hM, gor_dfl O R (hdf i oi)⟩
              cases args with
              | nil =>
                have h3 : some IEs.nil = some ies := h3
                cases h3
                exact peI (pe_gom0 (E := WE W) (ih o io h2) rule hg (hr.mono (Nat.le_succ kk)) (fun σ => passAt O.takes σ) (callsAttr_of hb (f := f) (ies := .nil) rfl hline hlen)) fun _ _ _ q => gom_nil (rE_mth O.tab.base mf hds q)
              | cons e es =>
                obtain ⟨s1, s2⟩ := peCR (X := X) (x := m) (np := pos) (pos := pos) h3
                exact peI (pe_gom (E := WE W) (ih o io h2) rule hg (hr.mono (Nat.le_succ kk)) (fun σ => passAt O.takes σ) (compEs_ok ih h3) s1 s2 (callsAttr_of hb h3 hline hlen)) fun _ _ _ q => rE_mth O.tab.base mf hds q
            unfold mthIE
            split
            · rename_i g0
              obtain ⟨d1, d2⟩ := dfl_cases O g0 (args.length + 1)
              refine go _ d1 fun i oi => ?_
              have e := oi.1
              rw [List.lookup_cons] at e
              split at e
              · cases e
                exact d2
              · cases e
            · exact go [] (fun d hd => by cases hd) fun _ _ => .inl rfl

/-! ### the whole -/
theorem compE_both (n : Nat) : (∀ (X : Cx) (W : WX) (c : Ctx), XOk S C W X c → ∀ e ie, compE n c e = some ie → PE X e (rE S C W ie)) ∧ (∀ (X : Cx) (W : WX) (c : Ctx), XOk S C W X c → ∀ e ie, compT n c e = some ie → PT X e (rB S C W ie)) := by
  induction n with
  | zero => exact ⟨fun X W c O e ie h => by simp [compE] at h, fun X W c O e ie h => by simp [compT] at h⟩
  | succ n ih =>
    obtain ⟨ihE, ihT⟩ := ih
    have E : ∀ (X : Cx) (W : WX) (c : Ctx), XOk S C W X c → ∀ e ie, compE (n + 1) c e = some ie → PE X e (rE S C W ie) := by
      intro X W c O e ie h
      unfold compE at h
      split at h
      · cases h; exact peI pe_int fun _ _ _ q => rE_cst (fun F => rep_int (S := S) (F := F)) q
      · cases h; exact peI pe_bl fun _ _ _ q => rE_cst (fun F => rep_bl (S := S) (F := F)) q
      · cases h; exact peI pe_non fun _ _ _ q => rE_cst (fun F => rep_non (S := S) (F := F)) q
      · cases h; exact peI pe_str fun _ _ _ q => rE_cst (fun F => rep_str (S := S) (F := F)) q
      · rename_i x p
        split at h
        · rename_i hgl
          obtain ⟨g, pl⟩ := O.gl hgl
          cases q : c.t.glbs.lookup x with
          | none => rw [q] at h; cases h
          | some d =>
            rw [q] at h
            cases h
            obtain ⟨v, u, hm, r, hr⟩ := O.tab.glbs x d q
            exact peI (pe_glob g hm r (plain_1 pl)) fun σ H Q q => rE_cst hr q
        cases q : c.var x with
        | none => rw [q] at h; cases h
        | some i =>
          rw [q] at h
          cases h
          obtain ⟨h1, h2, h3⟩ := O.seen q
          exact pe_varI h1 h2 (plain_1 h3) (plain_2 h3)
      · rename_i a op b p
        split at h
        · rename_i o x y h1 h2 h3
          cases h
          obtain ⟨r, r1, r2, r3⟩ := bin_rule O h1
          exact peI (pe_op r1 (ihE X W c O a x h2) (ihE X W c O b y h3)) fun _ _ _ q => rE_two r3 r2 q
        · cases h
      · rename_i a p
        cases q : compE n c a with
        | none => rw [q] at h; cases h
        | some x =>
          rw [q] at h
          cases h
          exact peI (pe_un un_neg (ihE X W c O a x q)) fun _ _ _ q => rE_one rfl one_neg q
      · rename_i a p
        cases q : compE n c a with
        | none => rw [q] at h; cases h
        | some x =>
          rw [q] at h
          cases h
          exact peI (pe_not (ihE X W c O a x q)) fun _ _ _ q => rE_not q
      · rename_i a op b p
        exact (cmp_both O (ihE X W c O) h).1
      · rename_i a op op' b d p
        split at h
        · cases h
        · rename_i hs
          rw [Bool.or_eq_true, not_or, Bool.not_eq_true, Bool.not_eq_true] at hs
          split at h
          · rename_i o o' x y z h1 h2 h3 h4 h5
            cases h
            obtain ⟨r, r1, r2, r3⟩ := cmp_rule O h1
            obtain ⟨r', r1', r2', r3'⟩ := cmp_rule O h2
            exact peI (pe_chain r1 r1' (ihE X W c O a x h3) (ihE X W c O b y h4) (ihE X W c O d z h5) (two_nomark hs.1 hs.2)) fun _ _ _ q => rE_chain r3 r3' r2 r2' q
          · cases h
      · rename_i v p
        split at h
        · rename_i e k p2
          split at h
          · rename_i hk
            rw [Bool.and_eq_true] at hk
            obtain ⟨hg, kk, hr, R⟩ := O.runs hk.2
            cases q : compE n c e with
            | none => rw [q] at h; cases h
            | some x =>
              rw [q] at h
              cases h
              rw [show k = -1 from eq_of_beq hk.1]
              exact pe_joined1 (peI (pe_fmtO hg hr (ihE X W c O e x q)) fun _ _ _ q => by rw [O.K]; exact rE_one rfl one_fmt q)
          · cases h
        · cases h
      · rename_i v1 v2 rest p
        split at h
        · cases q : compEs (compE n c) (v1 :: v2 :: rest) with
          | none => rw [q] at h; cases h
          | some ies =>
            rw [q] at h
            cases h
            exact peI (pe_joined (pj_of (ihE X W c O) q)) fun _ _ _ q => rE_fstr q
        · cases h
      · rename_i e k p
        split at h
        · rename_i hk
          rw [Bool.and_eq_true] at hk
          obtain ⟨hg, kk, hr, R⟩ := O.runs hk.2
          cases q : compE n c e with
          | none => rw [q] at h; cases h
          | some x =>
            rw [q] at h
            cases h
            rw [show k = -1 from eq_of_beq hk.1]
            exact peI (pe_fmtO hg hr (ihE X W c O e x q)) fun _ _ _ q => by rw [O.K]; exact rE_one rfl one_fmt q
        · cases h
      · rename_i e f p
        split at h
        · rename_i hp
          split at h
          · rename_i pp x h1 h2
            cases h
            obtain ⟨ff, na⟩ := O.tab.flds f pp.1 pp.2 h1
            exact peI (pe_fld (ihE X W c O e x h2) (plainObj_hb hp)) fun _ _ _ q => by rw [O.K]; exact rE_fld O.tab.base ff q
          · rename_i x h1 h2
            split at h
            · rename_i hcalm
              cases q : c.t.props.lookup f with
              | none => rw [q] at h; cases h
              | some tbl =>
                rw [q] at h
                cases h
                obtain ⟨hg, kk, hr, R⟩ := O.runs hcalm
                refine peI (pe_gop (CT := L2.CX X.prog X.w) (f := fun i => S.fa i.2) (ihE X W c O e x h2) (fun i oi => ?_) hg hr quietCT (plainObj_hb hp)) fun _ _ _ q => rE_prop O.tab.base q
                have hI := (O.tab.base.ins i.1 oi.2).cl
                have hP := O.tab.props f tbl q i.1 i.2 oi.1 oi.2
                rw [← O.K] at hI hP
                exact ⟨hI, hP, R.r i.2⟩
            · cases h
          · split at h
            · rename_i x px _
              split at h
              · rename_i hgl
                obtain ⟨g, pl⟩ := O.gl hgl
                cases q : c.t.cons.lookup (x, f) with
                | none => rw [q] at h; cases h
                | some d =>
                  rw [q] at h
                  cases h
                  obtain ⟨hc, Ca, mc, u, hm, cr, cv⟩ := O.tab.cons x f d q
                  refine peI (ClX.pe_cval (pe_glob g hm (show L2.RelV (V.ref Ca) _ from rfl) (plain_1 pl)) (plainObj_hb hp)) fun σ H Q q => ⟨Ca, mc, toV d, u, rfl, by rw [O.K]; exact cr, by rw [O.K]; exact cv, ?_⟩
                  exact rE_cst (fun F => rep_toV hc) q
              · cases h
            · cases h
        · cases h
      · rename_i x np m apos args pos
        split at h
        · rename_i hgl
          obtain ⟨g, pl⟩ := O.gl hgl
          split at h
          · rename_i hc
            simp only [Bool.and_eq_true, decide_eq_true_eq] at hc
            obtain ⟨⟨hcalm, hline⟩, hlen⟩ := hc
            split at h
            · rename_i p ies h1 h2
              cases h
              obtain ⟨hgd, kk, hr, R⟩ := O.runs hcalm
              have hr := hr.mono (Nat.le_succ kk)
              obtain ⟨hc, hm, mc, pp, cr, cm⟩ := O.tab.cmts x m p.1 p.2 h1
              rw [← O.K] at cr cm
              have F := R.r p.2
              have hv : ∀ F : Hp, RepD S F (.cls p.1) (V.ref (S.ca p.1)) := fun F => by
                simp only [RepD]
                exact ⟨hc, trivial⟩
              cases args with
              | nil =>
                cases h2
                exact peI (pe_gocm0 (E := WE W) F hgd hr g hm cr cm (fun σ => passAt O.takes σ) (plain_1 pl) (callsAttr_of rfl (f := compE n c) (ies := .nil) rfl hline hlen)) fun _ _ _ q => rA_nil (rA_cst hv (rE_call q))
              | cons e es =>
                obtain ⟨s1, s2⟩ := peCR (X := X) (x := m) (np := pos) (pos := pos) h2
                exact peI (pe_gocm (E := WE W) F hgd hr g hm cr cm (fun σ => passAt O.takes σ) (compEs_ok (ihE X W c O) h2) (plain_1 pl) s1 s2 (callsAttr_of rfl h2 hline hlen)) fun _ _ _ q => rA_cst hv (rE_call q)
            · rename_i ies h1 h2
              split at h
              · cases h
              · rename_i e es
                cases hsm : c.t.smts.lookup (x, m) with
                | none => rw [hsm] at h; cases h
                | some p =>
                  rw [hsm] at h
                  cases h
                  obtain ⟨hgd, kk, hr, R⟩ := O.runs hcalm
                  have hr := hr.mono (Nat.le_succ kk)
                  obtain ⟨hc, hm, mc, pp, cr, cm⟩ := O.tab.smts x m p.1 p.2 hsm
                  rw [← O.K] at cr cm
                  have F := R.r p.2
                  obtain ⟨s1, s2⟩ := peCR (X := X) (x := m) (np := pos) (pos := pos) h2
                  rcases cm with cm | cm
                  · exact peI (pe_gosm (E := WE W) F hgd hr g hm cr cm (fun σ => passAt O.takes σ) (compEs_ok (ihE X W c O) h2) (plain_1 pl) s1 s2 (callsAttr_of rfl h2 hline hlen)) fun _ _ _ q => rE_call q
                  · exact peI (pe_gofm (E := WE W) F hgd hr g hm cr cm (fun σ => passAt O.takes σ) (compEs_ok (ihE X W c O) h2) (plain_1 pl) s1 s2 (callsAttr_of rfl h2 hline hlen)) fun _ _ _ q => rE_call q
            · cases h
          · cases h
        · split at h
          · rename_i hm
            subst hm
            exact idx_case O (ihE X W c O) h (fun z => z) (fun _ => rfl)
          split at h
          · rename_i hc
            simp only [Bool.and_eq_true, decide_eq_true_eq] at hc
            obtain ⟨⟨hcalm, hline⟩, hlen⟩ := hc
            split at h
            · rename_i tbl io ies h1 h2 h3
              cases h
              exact mth_case O hcalm (ihE X W c O) rfl hline hlen h1 h2 h3
            · cases h
          · cases h
      · rename_i o m apos args pos _
        split at h
        · rename_i hm
          subst hm
          exact idx_case O (ihE X W c O) h (fun z => (Bool.and_eq_true _ _ ▸ z).1) (fun z => plainObj_hb (Bool.and_eq_true _ _ ▸ z).2)
        split at h
        · rename_i hc
          simp only [Bool.and_eq_true, decide_eq_true_eq] at hc
          obtain ⟨⟨⟨hp, hcalm⟩, hline⟩, hlen⟩ := hc
          split at h
          · rename_i tbl io ies h1 h2 h3
            cases h
            exact mth_case O hcalm (ihE X W c O) hp hline hlen h1 h2 h3
          · cases h
        · cases h
      · exact compBool_ok (ihE X W c O) h
      · rename_i t a b p
        split at h
        · rename_i it x y h1 h2 h3
          cases h
          exact peI (pe_ifExp (ihT X W c O t it h1) (ihE X W c O a x h2) (ihE X W c O b y h3)) fun _ _ _ q => rE_ife q
        · cases h
      · rename_i es k p
        cases q : compEs (compE n c) es with
        | none => rw [q] at h; cases h
        | some ies =>
          rw [q] at h
          cases h
          exact peI (pe_tup (compEs_ok (ihE X W c O) q)) fun _ _ _ q => rE_tup q
      · rename_i es p
        cases q : compEs (compE n c) es with
        | none => rw [q] at h; cases h
        | some ies =>
          rw [q] at h
          cases h
          exact peI (pe_lst (compEs_ok (ihE X W c O) q)) fun _ _ _ q => rE_lst q
      · cases h
        exact peI pe_dnewK fun _ _ _ q => rE_emp q
      · rename_i a lo hi p2 p
        split at h
        · rename_i x l u h1 h2 h3
          cases h
          exact peI (pe_slice (sl_list.or sl_tupA) (ihE X W c O a x h1) (po_of (ihE X W c O) h2) (po_of (ihE X W c O) h3)) fun _ _ _ q => by rw [O.K]; exact rE_slice q
        · cases h
      · rename_i a k p1 p2 p3 p
        cases q : compE n c a with
        | none => rw [q] at h; cases h
        | some x =>
          rw [q] at h
          cases h
          exact peI (pe_revL (ihE X W c O a x q)) fun _ _ _ q => by rw [O.K]; exact rE_rev q
      · rename_i a lo hi k p1 p2 p3 p _
        split at h
        · rename_i x l u h1 h2 h3
          cases h
          exact peI (pe_back (ihE X W c O a x h1) (po_of (ihE X W c O) h2) (po_of (ihE X W c O) h3)) fun _ _ _ q => by rw [O.K]; exact rE_rslice q
        · cases h
      · rename_i a i p _ _ _
        split at h
        · cases h
        · rename_i hs
          split at h
          · rename_i x y h1 h2
            cases h
            refine peI (pe_ix (r := fun x y H Q => rIxL X.K x y H Q ∨ rIxT X.K x y H Q) (ix_list.or ix_tup) (ihE X W c O a x h1) (ihE X W c O i y h2) fun o j => ?_) fun _ _ _ q => rE_two rfl (by rw [O.K]; exact two_ix) q
            cases i <;> first | rfl | exact absurd rfl hs
          · cases h
      · rename_i x p args pos
        split at h
        · rename_i hg
          obtain ⟨g, pl⟩ := O.gl hg
          split at h
          · rename_i f hf
            split at h
            · rename_i hcalm
              obtain ⟨hgd, kk, hr, R⟩ := O.runs hcalm
              have hr := hr.mono (Nat.le_succ kk)
              obtain ⟨f1, f2⟩ := O.tab.fns x f hf
              rw [← O.K] at f2
              split at h
              · rename_i ds hd
                obtain ⟨d1, d2⟩ := O.tab.dfl (f, args.length) ds hd
                have F := gor_dfl O R (.inr ⟨d1, d2⟩)
                cases args with
                | nil =>
                  cases h
                  refine peI (pe_go0 (E := WE W) F hgd hr g f1 f2 (fun σ => passAt O.takes σ) (plain_1 pl)) fun σ H Q q => ?_
                  obtain ⟨μ, F, env, M, r, hM, hE, hd, hk⟩ := rE_callp d1.1 q
                  unfold denEs at hd
                  cases hd
                  exact hk μ F H [] Aft.refl hM trivial
                | cons e es =>
                  cases q : compEs (compE n c) (e :: es) with
                  | none => rw [q] at h; cases h
                  | some ies =>
                    rw [q] at h
                    cases h
                    obtain ⟨s1, s2⟩ := peCR (X := X) (x := x) (np := pos) (pos := pos) q
                    exact peI (pe_go (E := WE W) F hgd hr g f1 f2 (fun σ => passAt O.takes σ) (compEs_ok (ihE X W c O) q) (plain_1 pl) s1 s2) fun σ H Q q => rE_callp d1.1 q
              · have F := R.r f
                cases args with
                | nil =>
                  cases h
                  refine peI (pe_go0 (E := WE W) F hgd hr g f1 f2 (fun σ => passAt O.takes σ) (plain_1 pl)) fun σ H Q q => ?_
                  obtain ⟨μ, F, env, M, r, hM, hE, hd, hk⟩ := rE_call q
                  unfold denEs at hd
                  cases hd
                  exact hk μ F H [] Aft.refl hM trivial
                | cons e es =>
                  cases q : compEs (compE n c) (e :: es) with
                  | none => rw [q] at h; cases h
                  | some ies =>
                    rw [q] at h
                    cases h
                    obtain ⟨s1, s2⟩ := peCR (X := X) (x := x) (np := pos) (pos := pos) q
                    exact peI (pe_go (E := WE W) F hgd hr g f1 f2 (fun σ => passAt O.takes σ) (compEs_ok (ihE X W c O) q) (plain_1 pl) s1 s2) fun σ H Q q => rE_call q
            · cases h
          · split at h
            · rename_i pn hn
              split at h
              · rename_i hcalm
                obtain ⟨hgd, kk, hr, R⟩ := O.runs hcalm
                obtain ⟨hc, f1, mk, fl⟩ := O.tab.news x pn.1 pn.2.1 pn.2.2 hn
                rw [← O.K] at mk
                obtain ⟨d1, d2⟩ := dfl_cases O pn.2.1 (args.length + 1)
                have F := gor_dfl O R d2
                cases args with
                | nil =>
                  cases h
                  refine peI (pe_gon0 (E := WE W) mk F hgd hr g f1 (fun σ => passAt O.takes σ) (plain_1 pl)) fun σ H Q q => ?_
                  exact gon_nil (rE_new hc fl d1 q)
                | cons e es =>
                  cases q : compEs (compE n c) (e :: es) with
                  | none => rw [q] at h; cases h
                  | some ies =>
                    rw [q] at h
                    cases h
                    obtain ⟨s1, s2⟩ := peCR (X := X) (x := x) (np := pos) (pos := pos) q
                    exact peI (pe_gon (E := WE W) mk F hgd hr g f1 (fun σ => passAt O.takes σ) (compEs_ok (ihE X W c O) q) (plain_1 pl) s1 s2) fun σ H Q q => rE_new hc fl d1 q
              · cases h
            · split at h
              · rename_i hx
                split at h
                · rename_i a
                  split at h
                  · cases h
                  · rename_i hs
                    rw [Bool.or_eq_true, not_or] at hs
                    have hcalm : c.calm = true := by
                      cases q : c.calm with
                      | true => rfl
                      | false => exact absurd (by rw [q]; rfl) hs.2
                    obtain ⟨hgd, kk, hr, R⟩ := O.runs hcalm
                    cases q : compE n c a with
                    | none => rw [q] at h; cases h
                    | some ia =>
                      rw [q] at h
                      cases h
                      subst hx
                      exact peI (pe_callB (call_repr O.K O.tab.base O.tab.reprs R.r hgd hr quietCT) g (O.tab.blt _ (by decide)) boot_repr (pa_cons (ihE X W c O a ia q) pa_nil (star_no (star_of hs.1))) (plain_3 pl) (plain_1 pl) (star_no (star_of hs.1)) (by rfl)) fun _ _ _ q => rE_rpr O.tab.base q
                · cases h
              · split at h
                · rename_i hx
                  split at h
                  · rename_i a ts k2 p2
                    split at h
                    · cases h
                    · rename_i hs
                      split at h
                      · rename_i ia l h1 h2
                        split at h
                        · rename_i hl
                          cases h
                          exact pe_isiT O hg hx (ihE X W c O a ia h1) (star_of hs) h2 hl.1 (Evl.sz_of (Nat.le_trans hl.2 (by decide)))
                        · cases h
                      · cases h
                  · rename_i a t hn
                    split at h
                    · cases h
                    · rename_i hs
                      split at h
                      · rename_i ia t' h1 h2
                        cases h
                        exact pe_isi O hg hx (ihE X W c O a ia h1) (star_of hs) h2
                      · cases h
                  · cases h
                · split at h
                  · rename_i e es o ho
                    split at h
                    rotate_left
                    · cases h
                    rename_i hcalm
                    cases q : compEs (compE n c) (e :: es) with
                    | none => rw [q] at h; cases h
                    | some ies =>
                      rw [q] at h
                      cases h
                      have hs : ¬ isStar e = true := by
                        intro z
                        unfold compEs at q
                        rw [if_pos z] at q
                        cases q
                      have hst := compEs_star (env := X.env) q
                      rw [star_no (star_of hs)] at hst
                      obtain ⟨r, r1, r2, r3, r4⟩ := blt_rule O hcalm ho
                      have pa := compEs_ok (ihE X W c O) q
                      rcases r4 with ⟨id, b1, b2⟩ | ⟨T, b1, b2⟩
                      · exact peI (pe_callB b2 g r1 b1 pa (plain_3 pl) (plain_1 pl) (star_no (star_of hs)) (by rw [back_any]; exact hst)) fun _ _ _ q => rE_many r3 r2 q
                      · exact peI (pe_callTy b2 g r1 b1 pa (plain_3 pl) (plain_1 pl) (star_no (star_of hs)) (by rw [back_any]; exact hst)) fun _ _ _ q => rE_many r3 r2 q
                  · cases h
        · split at h
          · rename_i i pn e es hi hv
            split at h
            · rename_i hcalm
              obtain ⟨hgd, kk, hr, R⟩ := O.runs hcalm
              obtain ⟨hc, mk, fl⟩ := O.tab.clsv x pn.1 pn.2.1 pn.2.2 hv
              rw [← O.K] at mk
              obtain ⟨d1, d2⟩ := dfl_cases O pn.2.1 ((e :: es).length + 1)
              have F := gor_dfl O R d2
              obtain ⟨v1, v2, v3⟩ := O.seen hi
              cases q : compEs (compE n c) (e :: es) with
              | none => rw [q] at h; cases h
              | some ies =>
                rw [q] at h
                cases h
                obtain ⟨s1, s2⟩ := peCR (X := X) (x := x) (np := pos) (pos := pos) q
                exact peI (pe_gonv (E := WE W) mk F hgd hr v1 v2 (fun σ => passAt O.takes σ) (compEs_ok (ihE X W c O) q) (plain_1 v3) (plain_2 v3) s1 s2) fun σ H Q q => rE_newv hc fl d1 q
            · cases h
          · cases h
      · rename_i x np a₀ args kw kws pos
        split at h
        · rename_i hq
          rw [Bool.and_eq_true] at hq
          obtain ⟨g, pl⟩ := O.gl hq.1
          split at h
          · rename_i pn ns hn hns
            split at h
            · rename_i q ia ik hk ha hkk
              cases h
              obtain ⟨hgd, kk, hr, R⟩ := O.runs hq.2
              obtain ⟨hc, f1, mk, fl⟩ := O.tab.news x pn.1 pn.2.1 pn.2.2 hn
              obtain ⟨hf, hqc, gU, kb⟩ := O.tab.kwd pn.2.1 (args.length + 2) ns q hk
              rw [← O.K] at mk kb
              obtain ⟨k1, k2, k3, k4⟩ := kw_facts (env := X.env) (pos := pos) hns
              obtain ⟨s1, s2⟩ := peCR (X := X) (x := x) (np := pos) (pos := pos) ha
              have F : GoF X.prog X.w X.K X.mg X.base (L2.CX X.prog X.w) kk (S.fa pn.2.1) (S.fd pn.2.1) (S.ps pn.2.1) (spF S C pn.2.1) := (R.f pn.2.1 hf).imp fun vs H Q E h => ⟨by
                obtain ⟨μ, F, as, M, r, hM, hvs, hC, -⟩ := id h
                rw [← hvs.len]
                exact R.len pn.2.1 hf as M r hC, h⟩
              have hpl : ((backTo pos (starEach (a₀ :: args) X.env)).any (·.1) || (backToKw pos (keywordEach (kw :: kws) X.env)).any (·.1.isNone)) = false := by
                rw [k3, back_any, compEs_star ha]
                rfl
              refine peI (pe_gonK (E := WE W) (n := args.length + 1) mk F hgd hr kb g f1 (fun σ => passAt O.takes σ) (compEs_ok (ihE X W c O) ha) (pk_of (ihE X W c O) hkk) k1 k2 (plain_1 pl) s1 hpl) fun σ H Q z => ?_
              exact rE_newK hc fl hqc (fun d => es_len ha d) (fun d => by rw [es_len hkk d, ← k4]) z
            · cases h
          · cases h
        · cases h
      · rename_i elt tg iter ifs scope p
        split at h
        rotate_left
        · cases h
        rename_i hcalm
        obtain ⟨t, own, it, cs, e, rfl, bo, sl, p1, p2, p3, p4, p5⟩ := compLc_ok O hcalm ihE ihT h
        exact peI (pe_lc (O.calm hcalm) O.nd p1 bo p3 p4 p5 p2) fun _ _ _ q => rE_lc sl q
      · cases h
    refine ⟨E, fun X W c O e ie h => ?_⟩
    unfold compT at h
    split at h
    · rename_i a p
      cases q : compT n c a with
      | none => rw [q] at h; cases h
      | some x =>
        rw [q] at h
        cases h
        exact ptI (pt_not (ihT X W c O a x q)) fun _ _ _ q => rB_not q
    · exact (compBool_okT (ihT X W c O) h).pt
    · cases h
    · rename_i a op b p
      exact (cmp_both O (ihE X W c O) h).2
    · rename_i a op op' b d p
      split at h
      · cases h
      · rename_i hs
        rw [Bool.or_eq_true, not_or, Bool.not_eq_true, Bool.not_eq_true] at hs
        split at h
        · rename_i o o' x y z h1 h2 h3 h4 h5
          cases h
          obtain ⟨r, r1, r2, r3⟩ := cmp_rule O h1
          obtain ⟨r', r1', r2', r3'⟩ := cmp_rule O h2
          exact ptI (pt_chain r1 r1' (ihE X W c O a x h3) (ihE X W c O b y h4) (ihE X W c O d z h5) (two_nomark hs.1 hs.2)) fun _ _ _ q => rE_chain r3 r3' r2 r2' (rB_val q)
        · cases h
    · cases h
    · rename_i h0 h1 h2 h3' h3 h5
      refine pt_valI (ihE X W c O e ie h) fun whole => ?_
      cases e with
      | UnaryOp op a p => cases op <;> first | exact absurd rfl (h0 _ _) | rfl
      | BoolOp op a p => exact absurd rfl (h1 _ _ _)
      | IfExp a b d p => exact absurd rfl (h2 _ _ _ _)
      | Compare a b d p => exact absurd rfl (h5 _ _ _ _)
      | _ => rfl
end
end PyI

namespace PyI
open PySem PySem.Spec PyProof.Rows L2
theorem swap_no {es : List Expr} {k : Nat} {tp : Pos} {e : Expr} {env : PySem.Env} (h : ∀ vs k p, e ≠ .Tuple vs k p) : swappedStores [.Tuple es k tp] e env = pure none := by
  unfold swappedStores
  cases e <;> first | rfl | exact absurd rfl (h _ _ _)
theorem swap_len {es vs : List Expr} {k k2 : Nat} {tp p2 : Pos} {env : PySem.Env} (h : (es.length == 2 || es.length == 3) = false) : swappedStores [.Tuple es k tp] (.Tuple vs k2 p2) env = pure none := by
  unfold swappedStores
  simp only [h, Bool.not_false, Bool.true_or, if_true]
theorem no_star (a : Expr) (h : (match a with | Expr.Starred .. => true | _ => false) = true) : isStar a = true := by
  cases a <;> first | rfl | (cases h)
theorem swap2 {x y : Str} {px py pt p2 : Pos} {kt k2 : Nat} {a b : Expr} {env : PySem.Env} (hk : env.scope.kind = .function) (hx : env.kindOf x = some .local) (hy : env.kindOf y = some .local) (hl : (py.line == px.line) = true) (hne : x ≠ y)
    (hs : isStar a = false) (hs2 : isStar b = false) (hf : [a, b].all (foldedForSure 8) = false) (hc : [a, b].all (constantsAlone 8) = false) :
    swappedStores [.Tuple [.Name x px, .Name y py] kt pt] (.Tuple [a, b] k2 p2) env = pure (some [x, y]) := by
  have hb : env.blockKind = .function := by unfold Env.blockKind; rw [hk]; rfl
  have he : ([x, y] : List Str).eraseDups.length = 2 := by
    simp [List.eraseDups_cons, hne, Ne.symm hne]
  unfold swappedStores
  simp only [hb, List.filterMap_cons, List.filterMap_nil, hx, hy, hl, List.head?_cons, Option.map_some, Option.getD_some, Expr.pos, List.length_cons, List.length_nil, hf, hc]
  simp
  rw [if_neg, if_pos he]
  rintro (h | h)
  · rw [no_star _ h] at hs; cases hs
  · rw [no_star _ h] at hs2; cases hs2
theorem swap2c {x y : Str} {px py pt p2 : Pos} {kt k2 : Nat} {a b : Expr} {env : PySem.Env} (hf : [a, b].all (foldedForSure 8) = true) (hs : isStar a = false) (hs2 : isStar b = false) :
    swappedStores [.Tuple [.Name x px, .Name y py] kt pt] (.Tuple [a, b] k2 p2) env = pure none := by
  unfold swappedStores
  simp only [List.head?_cons, Option.map_some, Option.getD_some, Expr.pos, List.length_cons, List.length_nil, hf]
  simp
theorem swap3 {x y z : Str} {px py pz pt p2 : Pos} {kt k2 : Nat} {a b c : Expr} {env : PySem.Env} (hk : env.scope.kind = .function) (hx : env.kindOf x = some .local) (hy : env.kindOf y = some .local) (hz : env.kindOf z = some .local) (hl : (py.line == px.line) = true) (hl2 : (pz.line == px.line) = true)
    (hne : x ≠ y) (hne2 : x ≠ z) (hne3 : y ≠ z) (hs : isStar a = false) (hs2 : isStar b = false) (hs3 : isStar c = false) (hf : [a, b, c].all (foldedForSure 8) = false) (hc : [a, b, c].all (constantsAlone 8) = false) :
    swappedStores [.Tuple [.Name x px, .Name y py, .Name z pz] kt pt] (.Tuple [a, b, c] k2 p2) env = pure (some [x, y, z]) := by
  have hb : env.blockKind = .function := by unfold Env.blockKind; rw [hk]; rfl
  have he : ([x, y, z] : List Str).eraseDups.length = 3 := by
    simp [List.eraseDups_cons, hne, Ne.symm hne, hne2, Ne.symm hne2, hne3, Ne.symm hne3]
  unfold swappedStores
  simp only [hb, List.filterMap_cons, List.filterMap_nil, hx, hy, hz, hl, hl2, List.head?_cons, Option.map_some, Option.getD_some, Expr.pos, List.length_cons, List.length_nil, hf, hc]
  simp
  rw [if_neg, if_pos he]
  rintro (h | h | h)
  · rw [no_star _ h] at hs; cases hs
  · rw [no_star _ h] at hs2; cases hs2
  · rw [no_star _ h] at hs3; cases hs3
def offNames (sc : Scope) (ts : List Expr) : List Str := ts.filterMap fun
    | .Name id pos => if sc.names.lookup id == some .local && pos.line == (ts.head?.map (·.pos.line)).getD 0 then some id else none
    | _ => none
def offSwap (sc : Scope) (ts : List Expr) : Bool := (offNames sc ts).length != ts.length
theorem swap_off {ts : List Expr} {k : Nat} {tp : Pos} {e : Expr} {env : PySem.Env} (h : offSwap env.scope ts = true) : swappedStores [.Tuple ts k tp] e env = pure none := by
  unfold swappedStores
  cases e with
  | Tuple vs k2 p2 =>
    dsimp only
    split
    · rfl
    split
    · rfl
    exact if_pos (by rw [Bool.or_eq_true]; exact .inl h)
  | _ => rfl
end PyI

/-! PyI 10: from the text's tree: statements. -/
namespace PyI
open PySem PySem.Spec PyProof.Rows L2
open Evl (Ex)

def isList : Expr → Bool
  | .List .. => true
  | _ => false
def isTuple : Expr → Bool
  | .Tuple .. => true
  | _ => false
def isFun (sc : Scope) : Bool := match sc.kind with | .function => true | _ => false
def Ctx.isLoc (c : Ctx) (x : Str) : Bool := (c.kind x == some .local) && plainName x
/-- a value that is stored; a list that is written later is a cell -/
def compV (n : Nat) (c : Ctx) (cell : Bool) (e : Expr) : Option IE :=
  match cell, e with
  | true, .List es _ => (compEs (compE n c) es).map (.mk .lst)
  | true, .Call (.Name f p) [a] [] pos => if c.calm && c.glb f && (f == ("tuple" : Str)) && !isStar a && (c.t.fns.lookup f).isNone && (c.t.news.lookup f).isNone then (compE n c a).map .mkt else compE n c (.Call (.Name f p) [a] [] pos)
  | _, e => compE n c e
/-- several values, for several names -/
def parVs (n : Nat) (c : Ctx) : List Expr → List Expr → Option IEs
  | [], [] => some .nil
  | .Name x _ :: ts, e :: es => if isStar e then none else match compV n c (c.muts.contains x) e, parVs n c ts es with
    | some a, some b => some (.cons a b)
    | _, _ => none
  | _, _ => none
def parIs (c : Ctx) : List Expr → Option (List Nat)
  | [] => some []
  | .Name x _ :: r => if c.isLoc x then match slotOf c.N x, parIs c r with
    | some i, some l => some (i :: l)
    | _, _ => none
    else none
  | _ => none
def anyMut (c : Ctx) (ts : List Expr) : Bool := ts.any fun t => match t with
  | .Name x _ => c.muts.contains x
  | _ => false
/-- the suite of an except clause: a constant is returned, or nothing is done -/
def compH : List Stmt → Option ISs
  | [.Return (some (.Constant (.bool b) _ _)) _] => some (.cons (.ret (.cst (.bl b))) .nil)
  | [.Return (some (.Constant .none _ _)) _] => some (.cons (.ret (.cst .non)) .nil)
  | [.Return (some (.Constant (.str b) _ _)) _] => some (.cons (.ret (.cst (.str b))) .nil)
  | [.Pass _] => some (.cons .pass .nil)
  | _ => none
/-- the clauses: the classes of each, and its suite -/
def compHs (c : Ctx) (f : List Stmt → Option ISs) : List ExceptHandler → Option IHs
  | [] => some .nil
  | .ExceptHandler (some (.Name x _)) none (b₀ :: suite) _ :: r => if c.glb x then match c.t.exs.lookup x, f (b₀ :: suite), compHs c f r with
      | some l, some h, some hs => some (.cons l h hs)
      | _, _, _ => none
    else none
  | _ => none
/-- attributes of one name, as targets -/
def attrTs (x : Str) : List Expr → Option (List Str)
  | [] => some []
  | .Attribute (.Name y _) f _ :: r => if y = x then (attrTs x r).map (f :: ·) else none
  | _ => none
def firstName : List Expr → Option Str
  | .Attribute (.Name y _) _ _ :: _ => some y
  | _ => none
def fldIds (c : Ctx) : List Str → Option (List Nat)
  | [] => some []
  | f :: fs => match c.t.flds.lookup f, fldIds c fs with
    | some p, some r => some (p.1 :: r)
    | _, _ => none
/-- statements that raise nothing -/
def quietE : IE → Bool
  | .cst _ | .var _ => true
  | .op _ es => quietEs es
  | _ => false
where quietEs : IEs → Bool
  | .nil => true
  | .cons e es => quietE e && quietEs es
def quietS : IS → Bool
  | .pass | .brk | .cont | .retN => true
  | .ret e => quietE e
  | .set (.nm _) e => quietE e
  | .app o e => quietE o && quietE e
  | _ => false
def quietSs : ISs → Bool
  | .nil => true
  | .cons s ss => quietS s && quietSs ss
def quietHs : IHs → Bool
  | .nil => true
  | .cons _ h r => quietSs h && quietHs r
mutual
def compS : Nat → Ctx → Stmt → Option IS
  | 0, _, _ => none
  | n + 1, c, st => match st with
    | .Pass _ => some .pass
    | .Break _ => some .brk
    | .Continue _ => some .cont
    | .Expr (.Constant (.str _) _ _) _ => some .pass
    | .Expr (.Call (.Attribute o m apos) [e] [] cpos) _ => if m = "append" then (if plainObj o && !isStar e && (apos.endLine == cpos.line) then match compE n c o, compE n c e with
        | some io, some ie => some (.app io ie)
        | _, _ => none
      else none) else (compE n c (.Call (.Attribute o m apos) [e] [] cpos)).map .drop
    | .Expr e _ => if isComp e then none else (compE n c e).map .drop
    | .Assign [.Attribute o f tp] e pos => if isComp e then none else match c.t.flds.lookup f, compE n c o, compV n c (c.muts.contains f) e with
      | some p, some io, some ie => some (.setf p.1 io ie)
      | _, _, _ => none
    | .Assign [.Tuple (.Attribute (.Name x px) f fp :: ts) k tp] e pos => if isComp e || !c.calm then none else match attrTs x (.Attribute (.Name x px) f fp :: ts) with
      | some fs => match fldIds c fs, c.var x, compE n c e with
        | some fl, some i, some ie => some (.setfs i fl ie)
        | _, _, _ => none
      | none => none
    | .Return none _ => some .retN
    | .Return (some e) _ => (compV n c (c.muts.contains "return") e).map .ret
    | .Assign [.Name x p'] e pos =>
      if (c.kind x == some .local || (c.top && c.kind x == some .cell)) && plainName x then match slotOf c.N x with
        | some i => if !c.calm then none else match e with
          | .ListComp elt [⟨tg, iter, ifs, 0⟩] scope p =>
            if c.kind x == some .local && isFun c.sc && (p'.line == p.line) && !(scope.names.any fun (n, k) => n == x && (k == .local || k == .cell))
            then (compLc c n (compE n) (compT n) elt tg iter ifs scope).map (.set (.nm i)) else none
          | e => if isComp e then none else (compV n c (c.muts.contains x) e).map (.set (.nm i))
        | none => none
      else none
    | .Assign [.Tuple ts k tp] e pos => if !c.calm then none else if offSwap c.sc ts then (if isComp e then none else match compTgs c (n + 1) ts, compE n c e with
        | some t, some ie => some (.set (.tp t) ie)
        | _, _ => none)
      else match e with
      | .Tuple vs k2 p2 => match ts, vs with
        | [.Name x px, .Name y py], [a, b] =>
          if isStar a || isStar b then none else if [a, b].all (foldedForSure 8) then match compTgs c (n + 1) ts, compE n c e with
            | some t, some ie => some (.set (.tp t) ie)
            | _, _ => none
          else if c.isLoc x && c.isLoc y && isFun c.sc && (py.line == px.line) && !(x == y) && !([a, b].all (constantsAlone 8)) then match slotOf c.N x, slotOf c.N y, parVs n c [.Name x px, .Name y py] [a, b] with
            | some i, some j, some ies => some (.par [i, j] ies)
            | _, _, _ => none
          else none
        | [.Name x px, .Name y py, .Name z pz], [a, b, d] =>
          if isStar a || isStar b || isStar d || [a, b, d].all (foldedForSure 8) then none
          else if c.isLoc x && c.isLoc y && c.isLoc z && isFun c.sc && (py.line == px.line) && (pz.line == px.line) && !(x == y) && !(x == z) && !(y == z) && !([a, b, d].all (constantsAlone 8)) then match slotOf c.N x, slotOf c.N y, slotOf c.N z, parVs n c [.Name x px, .Name y py, .Name z pz] [a, b, d] with
            | some i, some j, some l, some ies => some (.par [i, j, l] ies)
            | _, _, _, _ => none
          else none
        | _, _ => if ts.length == 2 || ts.length == 3 then none else if anyMut c ts then (match parIs c ts, parVs n c ts vs with
          | some is, some ies => if is.length ≤ 100 then some (.par is ies) else none
          | _, _ => none) else match compTgs c (n + 1) ts, compE n c e with
          | some t, some ie => some (.set (.tp t) ie)
          | _, _ => none
      | e => if isComp e then none else match compTgs c (n + 1) ts, compE n c e with
        | some t, some ie => some (.set (.tp t) ie)
        | _, _ => none
    | .Assign [.Subscript o i tp] e pos => if isSlice i || isComp e then none else match compE n c o, compE n c i, compE n c e with
      | some io, some ii, some ie => some (.setix io ii ie)
      | _, _, _ => none
    | .Assign [.Name x px, .Name y py] e pos => if isComp e then none else if c.isLoc x && c.isLoc y then match slotOf c.N x, slotOf c.N y, compE n c e with
        | some i, some j, some ie => some (.asg2 i j ie)
        | _, _, _ => none
      else none
    | .If t a b _ => match compT n c t, compSs n c a, compSs n c b with
      | some it, some x, some y => some (.ife it x y)
      | _, _, _ => none
    | .While t a [] _ => match compT n c t, compSs n c a with
      | some it, some x => some (.whl it x)
      | _, _ => none
    | .For tg iter a [] _ => if !c.calm then none else match compTg c n tg, compI c tg (compE n c) iter, compSs n c a with
      | some t, some it, some x => some (.for t it x)
      | _, _, _ => none
    | .Raise (some (.Call (.Name x _) [.Constant (.str _) _ _] [] _)) none _ => if c.glb x && c.calm then (c.t.xs.lookup x).map fun k => .raise k .nil else none
    | .Try body (h₁ :: hds) [] [] _ => if c.top then match compSs n c body, compHs c (compSs n { c with calm := false }) (h₁ :: hds) with
        | some b, some hs => if quietHs hs then some (.tryn b hs) else none
        | _, _ => none
      else none
    | _ => none
def compSs : Nat → Ctx → List Stmt → Option ISs
  | 0, _, _ => none
  | _ + 1, _, [] => some .nil
  | n + 1, c, s :: ss => (compSs n c ss).map (.cons ((compS n c s).getD .bad))
end

/-- .. for statements -/
structure XOkS (S : Sta) (C : Orc) (W : WX) (X : Cx) (c : Ctx) : Prop where
  e : XOk S C W X c
  stack : X.stack = X.env :: X.outer
  frame : X.env.frame = some X.env.locals
  passes : PassesOwn (model X.prog X.w) X.A X.env X.xe

section
variable {S : Sta} {C : Orc} {W : WX} {X : Cx} {c : Ctx}
theorem swaps_no {e : Expr} {t : Option Expr} {l : Nat} {env : PySem.Env} (h : ¬ isComp e = true) : swapsWith e t l env = pure false := by
  cases e <;> first | rfl | exact absurd rfl h
theorem soles_no {t e : Expr} {l : Nat} {env : PySem.Env} (h : ¬ isComp e = true) : swapsWithSole [t] e l env = pure false := swaps_no (t := some t) h
theorem isLoc_of (O : XOk S C W X c) {x : Str} (h : c.isLoc x = true) : X.env.scope.names.lookup x = some .local := by
  unfold Ctx.isLoc at h
  rw [Bool.and_eq_true] at h
  rw [O.sc]
  exact eq_of_beq h.1
theorem isFun_of (O : XOk S C W X c) (h : isFun c.sc = true) : X.env.scope.kind = .function := by
  rw [O.sc]
  unfold isFun at h
  split at h
  · assumption
  · cases h
theorem beq_no {x y : Str} (h : (!(x == y)) = true) : x ≠ y := by
  intro e
  subst e
  simp at h
theorem slot_ne {N : List Str} {x y : Str} {i j : Nat} (h1 : slotOf N x = some i) (h2 : slotOf N y = some j) (h : x ≠ y) : i ≠ j := by
  intro e
  subst e
  have a := slotOf_get h1
  rw [slotOf_get h2] at a
  exact h (Option.some.inj a).symm
theorem compV_ok (O : XOk S C W X c) {n : Nat} {b : Bool} {e : Expr} {ie : IE} (h : compV n c b e = some ie) : PE X e (rE S C W ie) := by
  unfold compV at h
  split at h
  · rename_i es p
    cases q : compEs (compE n c) es with
    | none => rw [q] at h; cases h
    | some ies =>
      rw [q] at h
      cases h
      exact peI (pe_lst (compEs_ok ((compE_both n).1 X W c O) q)) fun _ _ _ q => rE_mkl q
  · rename_i f p a pos
    split at h
    · rename_i hq
      simp only [Bool.and_eq_true, Bool.not_eq_true'] at hq
      obtain ⟨⟨⟨⟨⟨hcalm, hg⟩, hf⟩, hs⟩, _⟩, _⟩ := hq
      have hf : f = ("tuple" : Str) := eq_of_beq hf
      subst hf
      cases q : compE n c a with
      | none => rw [q] at h; cases h
      | some ia =>
        rw [q] at h
        cases h
        obtain ⟨g, pl⟩ := O.gl hg
        have st := star_of (e := a) (by rw [hs]; decide)
        exact peI (pe_callTy call_tupleF g (O.tab.blt _ (by decide)) boot_tuple (pa_cons ((compE_both n).1 X W c O a ia q) pa_nil (star_no st)) (plain_3 pl) (plain_1 pl) (star_no st) rfl) fun σ H Q q => by rw [O.K]; exact rE_mkt q
    · exact (compE_both n).1 X W c O _ ie h
  · exact (compE_both n).1 X W c O _ ie h

theorem parVs_ok (O : XOk S C W X c) {n : Nat} : ∀ {ts vs : List Expr} {ies : IEs}, parVs n c ts vs = some ies → PA X vs (rA S C W ies)
  | ts, [], ies, h => by
    unfold parVs at h
    split at h
    · cases h; exact pa_nilI
    · cases ‹[] = _›
    · cases h
  | ts, e :: es, ies, h => by
    unfold parVs at h
    split at h
    · cases ‹e :: es = []›
    · rename_i x p ts' e' es' he
      cases he
      split at h
      · cases h
      · rename_i hs
        split at h
        · rename_i a b h1 h2
          cases h
          exact pa_consI (compV_ok O h1) (parVs_ok O h2) (star_of hs)
        · cases h
    · cases h
theorem parIs_ok (O : XOk S C W X c) : ∀ {ts : List Expr} {is : List Nat}, parIs c ts = some is → PGs X ts (gNs is) ∧ (assignEach ts X.env).length = is.length ∧ (assignEach ts X.env).findIdx? (·.1) = none
  | [], is, h => by
    unfold parIs at h
    cases h
    exact ⟨pgs_nil, rfl, rfl⟩
  | t :: ts, is, h => by
    unfold parIs at h
    split at h
    · cases ‹_ = []›
    · rename_i x p r heq
      cases heq
      split at h
      · rename_i hx
        split at h
        · rename_i i l h1 h2
          cases h
          obtain ⟨a, b, d⟩ := parIs_ok O h2
          have l1 := isLoc_of O hx
          have st : ∀ y q, (Expr.Name x p) ≠ .Starred y q := fun y q e => by cases e
          refine ⟨pgs_cons (pg_name O.nd (by rw [O.N]; exact slotOf_get h1) (.inl l1) (.inr l1)) a (by rw [assign_no st] <;> rfl), ?_, ?_⟩
          · rw [assign_no st]; simp [b]
          · rw [assign_no st]; simp [List.findIdx?_cons, d]
        · cases h
      · cases h
    · cases h

/-! ### raise, try -/
theorem pmk_of (O : XOk S C W X c) {x m : Str} {k j : Nat} {p p2 pos : Pos} (hg : c.glb x = true) (h : c.t.xs.lookup x = some k) : PMk X (.Call (.Name x p) [.Constant (.str m) j p2] [] pos) (fun _ H Q => Q (.ref (S.ca k)) none H) := by
  obtain ⟨g, pl⟩ := O.gl hg
  obtain ⟨_, hm, F⟩ := O.tab.xs x k h
  rw [← O.K] at F
  obtain ⟨B, newId, initId, bmB, f1, f2⟩ := F.base
  exact pmk_own f1 f2 hm F.keep (raises_own F.sub F.ty) g (plain_1 pl)
theorem ps_raiseI (O : XOk S C W X c) (hcalm : c.calm = true) {x m : Str} {k j : Nat} {p p2 pos pos2 : Pos} (hg : c.glb x = true) (h : c.t.xs.lookup x = some k) : PS X (.Raise (some (.Call (.Name x p) [.Constant (.str m) j p2] [] pos)) none pos2) (rS S C W (.raise k .nil)) := by
  refine psI (ps_raise (O.calm hcalm) O.takes (pmk_of O hg h)) fun D σ H q => ?_
  obtain ⟨μ, F, env, M, f, hM, hE, hd, hk⟩ := q
  unfold denS denEs at hd
  simp only [bndS_ok, holds_nil] at hd
  cases hd
  exact hk μ F H σ _ none Aft.refl hM hE ⟨(O.tab.xs x k h).1, rfl, .inl ⟨rfl, rfl⟩⟩
theorem XOkS.suite (O : XOkS S C W X c) {a : Addr} {pn : List (Addr × Obj)} : XOkS S C (fun _ _ _ _ => False) (X.suite a pn) { c with calm := false } where
  e := ⟨O.e.K, fun h => (by cases h), O.e.nd, O.e.N, O.e.sc, O.e.fn, takes0, O.e.units, O.e.tab, fun h => (by cases h)⟩
  stack := O.stack
  frame := O.frame
  passes := fun e s' h => h.elim
/-- no exception leaves the suite -/
theorem KS.noex {μ : Nat → Addr} {F H : Hp} {k : Nat} {D : Ends} {f : Fl} (h : KS S W μ F H k D f) (hn : ∀ x env M, f ≠ .ex x env M) : KS S (fun _ _ _ _ => False) μ F H k D f := by
  cases f with
  | ex x env M => exact absurd rfl (hn x env M)
  | nx env M => exact h
  | rt v M => exact h
  | bk env M => exact h
  | ct env M => exact h
mutual
theorem quietE_no {env : Env} {M M1 : Mem} {x : Xn} : ∀ {e : IE}, quietE e = true → denE C e env M ≠ some (.ex x M1)
  | .cst d, _, z => by unfold denE at z; cases z
  | .var i, _, z => by
    unfold denE at z
    split at z <;> cases z
  | .op o es, h, z => by
    unfold denE at z
    rcases bnd_eq z with ⟨vs, M2, h1, h2⟩ | ⟨y, M2, h1, h2⟩
    · unfold runOp at h2
      split at h2
      · split at h2
        · rename_i xs M3 q
          cases q2 : opD o xs with
          | none => rw [q2] at h2; cases h2
          | some w => rw [q2] at h2; cases h2
        · cases h2
      · split at h2
        · rename_i xs q
          cases q2 : opD o xs with
          | none => rw [q2] at h2; cases h2
          | some w => rw [q2] at h2; cases h2
        · cases h2
    · exact quietEs_no h h1
  | .mk o es, h, z => by cases h
  | .and a b, h, z => by cases h
  | .or a b, h, z => by cases h
  | .not a, h, z => by cases h
  | .ife c a b, h, z => by cases h
  | .call f es, h, z => by cases h
  | .callp f p es, h, z => by cases h
  | .fld f cs e, h, z => by cases h
  | .prop t e, h, z => by cases h
  | .mth t p o es, h, z => by cases h
  | .new c l f p es, h, z => by cases h
  | .newv i c l f p es, h, z => by cases h
  | .eqo n t u a b, h, z => by cases h
  | .rpr t e, h, z => by cases h
  | .eql n t a b, h, z => by cases h
  | .anint e, h, z => by cases h
  | .idx o e, h, z => by cases h
  | .mkt e, h, z => by cases h
  | .fstr es, h, z => by cases h
  | .chain o o' a b c, h, z => by cases h
  | .lc t o i c e, h, z => by cases h
theorem quietEs_no {env : Env} {M M1 : Mem} {x : Xn} : ∀ {es : IEs}, quietE.quietEs es = true → denEs C es env M ≠ some (.ex x M1)
  | .nil, _, z => by unfold denEs at z; cases z
  | .cons e es, h, z => by
    have h : (quietE e && quietE.quietEs es) = true := h
    rw [Bool.and_eq_true] at h
    unfold denEs at z
    rcases bnd_eq z with ⟨v, M2, h1, h2⟩ | ⟨y, M2, h1, h2⟩
    · rcases bnd_eq h2 with ⟨vs, M3, h3, h4⟩ | ⟨y, M3, h3, h4⟩
      · cases h4
      · exact quietEs_no h.2 h3
    · exact quietE_no h.1 h1
end
theorem quietS_no {env env1 : Env} {M M1 : Mem} {x : Xn} {s : IS} (h : quietS s = true) : denS C s env M ≠ some (.ex x env1 M1) := by
  intro z
  unfold quietS at h
  split at h
  · unfold denS at z; cases z
  · unfold denS at z; cases z
  · unfold denS at z; cases z
  · unfold denS at z; cases z
  · unfold denS at z
    rcases bndS_eq z with ⟨v, M2, h1, h2⟩ | ⟨y, M2, h1, h2⟩
    · cases h2
    · exact quietE_no h h1
  · unfold denS at z
    rcases bndS_eq z with ⟨v, M2, h1, h2⟩ | ⟨y, M2, h1, h2⟩
    · cases h2
    · exact quietE_no h h1
  · rw [Bool.and_eq_true] at h
    unfold denS at z
    rcases bndS_eq z with ⟨v, M2, h1, h2⟩ | ⟨y, M2, h1, h2⟩
    · split at h2
      · rcases bndS_eq h2 with ⟨w, M3, h3, h4⟩ | ⟨y, M3, h3, h4⟩
        · split at h4 <;> cases h4
        · exact quietE_no h.2 h3
      · cases h2
    · exact quietE_no h.1 h1
  · cases h
theorem quietSs_no {env1 : Env} {M1 : Mem} {x : Xn} : ∀ {ss : ISs} {env : Env} {M : Mem}, quietSs ss = true → denSs C ss env M ≠ some (.ex x env1 M1)
  | .nil, env, M, _, z => by unfold denSs at z; cases z
  | .cons s ss, env, M, h, z => by
    have h : (quietS s && quietSs ss) = true := h
    rw [Bool.and_eq_true] at h
    unfold denSs at z
    cases q : denS C s env M with
    | none => rw [q] at z; cases z
    | some f =>
      rw [q] at z
      cases f with
      | nx env2 M2 => exact quietSs_no h.2 z
      | rt v M2 => cases z
      | bk env2 M2 => cases z
      | ct env2 M2 => cases z
      | ex y env2 M2 => exact quietS_no h.1 q
theorem compHs_ok (O : XOkS S C W X c) {f : List Stmt → Option ISs} (ih : ∀ (a : Addr) (pn : List (Addr × Obj)) sts ss, f sts = some ss → PSs (X.suite a pn) sts (rSs S C (fun _ _ _ _ => False) ss)) : ∀ {hds : List ExceptHandler} {hs : IHs}, compHs c f hds = some hs → quietHs hs = true →
    ∃ vs : List (Value × (Addr → Value → Option Addr → TS)), HdsOk X hds vs ∧
      ∀ (D : Ends) (μ : Nat → Addr) (F : Hp) (σ : Sl) (H : Hp) (env1 : Env) (M1 : Mem) (x1 : Xn) (cls : Value) (d : Option Addr) (f : Fl), MemR S μ F M1 H → EnvR S μ F M1.length env1 σ → RepX S F x1 cls d → denH C hs x1 env1 M1 = some f → KS S W μ F H M1.length D f → wMany X.K W D vs cls d σ H := by
  intro hds
  induction hds with
  | nil =>
    intro hs h _
    cases h
    refine ⟨[], .nil, fun D μ F σ H env1 M1 x1 cls d f hM hE rx hp hk => ?_⟩
    unfold denH at hp
    cases hp
    exact hk μ F H σ _ d Aft.refl hM hE rx
  | cons hd hds ihh =>
    intro hs h hq
    unfold compHs at h
    split at h
    · cases ‹_ = []›
    · rename_i x np b₀ suite pos' r heq
      cases heq
      split at h
      · rename_i hg
        split at h
        · rename_i l ih1 hs1 h1 h2 h3
          cases h
          have hq : (quietSs ih1 && quietHs hs1) = true := hq
          rw [Bool.and_eq_true] at hq
          obtain ⟨g, pl⟩ := O.e.gl hg
          obtain ⟨Ca, hm, hx⟩ := O.e.tab.exs x l h1
          obtain ⟨vs, k1, k3⟩ := ihh h3 hq.2
          refine ⟨(.ref Ca, fun _ _ _ => rSs S C (fun _ _ _ _ => False) ih1) :: vs, .cons ⟨g, plain_1 pl, .inl hm⟩ (fun a oe cls d pn _ _ => ih a _ _ _ h2) k1, ?_⟩
          intro D μ F σ H env1 M1 x1 cls d f hM hE rx hp hk
          obtain ⟨hc, rfl, hd2⟩ := id rx
          refine ⟨l.contains x1.c, by rw [O.e.K]; exact hx x1.c hc, fun hb a ha => ?_, fun hb => ?_⟩
          · unfold denH at hp
            rw [if_pos hb] at hp
            exact ⟨μ, F, env1, M1, f, hM, hE, hp, hk.noex fun x env M e => quietSs_no hq.1 (e ▸ hp)⟩
          · unfold denH at hp
            rw [if_neg (by rw [hb]; decide)] at hp
            exact k3 D μ F σ H env1 M1 x1 _ d f hM hE rx hp hk
        · cases h
      · cases h
    · cases h
theorem ps_tryI (O : XOkS S C W X c) {f : List Stmt → Option ISs} {h₀ : ExceptHandler} {hds : List ExceptHandler} {hs : IHs} {body : List Stmt} {pos : Pos} {ib : ISs}
    (hb : ∀ (W : WX) (pn : List (Addr × Obj)) (xe : Value → Shared → Prop), XOkS S C W (X.tr pn xe) c → PSs (X.tr pn xe) body (rSs S C W ib)) (ih : ∀ (a : Addr) (pn : List (Addr × Obj)) sts ss, f sts = some ss → PSs (X.suite a pn) sts (rSs S C (fun _ _ _ _ => False) ss))
    (hh : compHs c f (h₀ :: hds) = some hs) (hq : quietHs hs = true) : PS X (.Try body (h₀ :: hds) [] [] pos) (rS S C W (.tryn ib hs)) := by
  have tr : ∀ (W : WX) (pn : List (Addr × Obj)) (xe : Value → Shared → Prop), Takes (X.tr pn xe) W → PassesOwn (model X.prog X.w) X.A X.env xe → XOkS S C W (X.tr pn xe) c := fun W pn xe tk pa =>
    ⟨⟨O.e.K, O.e.calm, O.e.nd, O.e.N, O.e.sc, O.e.fn, tk, O.e.units, O.e.tab, fun h => by
      obtain ⟨hg, k, hr, R⟩ := O.e.runs h
      exact ⟨hg, k, hr, ⟨R.len, R.r, R.f⟩⟩⟩, O.stack, O.frame, pa⟩
  obtain ⟨vs, k1, k3⟩ := compHs_ok O ih hh hq
  refine psI (ps_try_many (l := vs) (tb := fun W => rSs S C W ib) (Wout := W) O.stack O.frame O.e.takes (fun W pn xe tk pa => hb W pn xe (tr W pn xe tk pa)) k1) fun D σ H q => ?_
  obtain ⟨μ, F, env, M, f, hM, hE, hd, hk⟩ := q
  unfold denS at hd
  cases q1 : denSs C ib env M with
  | none => rw [q1] at hd; cases hd
  | some gf =>
    rw [q1] at hd
    refine ⟨μ, F, env, M, gf, hM, hE, q1, ?_⟩
    cases gf with
    | nx env1 M1 => cases hd; exact hk
    | rt v M1 => cases hd; exact hk
    | bk env1 M1 => cases hd; exact hk
    | ct env1 M1 => cases hd; exact hk
    | ex x1 env1 M1 =>
      intro μ1 F1 H1 σ1 cls d a1 m1 e1 rx
      exact k3 D μ1 F1 σ1 H1 env1 M1 x1 cls d f m1 e1 rx hd (hk.weak a1)

/-! ### attributes, append -/
theorem attrs_ok (O : XOk S C W X c) {x : Str} {i : Nat} (hx : c.var x = some i) : ∀ {ts : List Expr} {fs : List Str}, attrTs x ts = some fs → PGs X ts (gFlds S.K i fs)
  | [], fs, h => by
    cases h
    exact pgs_nil
  | t :: ts, fs, h => by
    unfold attrTs at h
    split at h
    · cases ‹_ = []›
    · rename_i y py f fp r heq
      cases heq
      split at h
      · rename_i e
        subst e
        cases q : attrTs y ts with
        | none => rw [q] at h; cases h
        | some gs =>
          rw [q] at h
          cases h
          obtain ⟨h1, h2, h3⟩ := O.seen hx
          have g := pg_attr (X := X) (f := f) (pos := fp) (pe_var (pos := py) h1 h2 (plain_1 h3) (plain_2 h3))
          rw [O.K] at g
          exact pgs_cons g (attrs_ok O hx q)
      · cases h
    · cases h
theorem attrTs_as {x : Str} {env : PySem.Env} : ∀ {ts : List Expr} {fs : List Str}, attrTs x ts = some fs → (assignEach ts env).length = fs.length ∧ (assignEach ts env).findIdx? (·.1) = none
  | [], fs, h => by
    cases h
    exact ⟨rfl, rfl⟩
  | t :: ts, fs, h => by
    unfold attrTs at h
    split at h
    · cases ‹_ = []›
    · rename_i y py f fp r heq
      cases heq
      split at h
      · cases q : attrTs x ts with
        | none => rw [q] at h; cases h
        | some gs =>
          rw [q] at h
          cases h
          obtain ⟨a, b⟩ := attrTs_as (env := env) q
          rw [assign_no (fun _ _ e => by cases e)]
          exact ⟨by simp [a], by simp [List.findIdx?_cons, b]⟩
      · cases h
    · cases h
theorem fldIds_ok (O : XOk S C W X c) : ∀ {fs : List Str} {fl : List Nat}, fldIds c fs = some fl → fl.map S.fnm = fs ∧ ∀ f ∈ fl, S.fok f = true ∧ ∀ c, S.ih c = true → NoAttr S.K (S.ca c) (S.fnm f)
  | [], fl, h => by
    cases h
    exact ⟨rfl, fun f hf => by cases hf⟩
  | f :: fs, fl, h => by
    unfold fldIds at h
    split at h
    · rename_i p r h1 h2
      cases h
      obtain ⟨ff, na⟩ := O.tab.flds f p.1 p.2 h1
      obtain ⟨e, al⟩ := fldIds_ok O h2
      refine ⟨by rw [List.map_cons, ff.nm, e], fun g hg => ?_⟩
      rcases List.mem_cons.mp hg with rfl | hg
      · exact ⟨ff.ok, by rw [ff.nm]; exact na⟩
      · exact al g hg
    · cases h
theorem attrTs_off {sc : Scope} {x : Str} {t : Expr} {ts : List Expr} {fs : List Str} (h : attrTs x (t :: ts) = some fs) : offSwap sc (t :: ts) = true := by
  have e : ∀ {ts : List Expr} {fs : List Str} (p : Nat), attrTs x ts = some fs → (ts.filterMap fun
    | .Name id pos => if sc.names.lookup id == some .local && pos.line == p then some id else none
    | _ => none) = [] := by
    intro ts
    induction ts with
    | nil => intro fs p _; rfl
    | cons t ts ih =>
      intro fs p h
      unfold attrTs at h
      split at h
      · cases ‹_ = []›
      · rename_i y py f fp r heq
        cases heq
        split at h
        · cases q : attrTs x ts with
          | none => rw [q] at h; cases h
          | some gs => exact ih p q
        · cases h
      · cases h
  have e2 := e ((t :: ts).head?.map (·.pos.line) |>.getD 0) h
  unfold offSwap offNames
  exact (congrArg (fun l : List Str => l.length != (t :: ts).length) e2).trans rfl

/-! ### all statements -/
theorem compS_both (n : Nat) : (∀ (X : Cx) (W : WX) (c : Ctx), XOkS S C W X c → ∀ st s, compS n c st = some s → PS X st (rS S C W s)) ∧ (∀ (X : Cx) (W : WX) (c : Ctx), XOkS S C W X c → ∀ sts ss, compSs n c sts = some ss → PSs X sts (rSs S C W ss)) := by
  induction n with
  | zero => exact ⟨fun X W c O e ie h => by simp [compS] at h, fun X W c O e ie h => by simp [compSs] at h⟩
  | succ n ih =>
    obtain ⟨ihS, ihL⟩ := ih
    refine ⟨fun X W c O st s h => ?_, fun X W c O sts ss h => ?_⟩
    rotate_left
    · cases sts with
      | nil => simp only [compSs, Option.some.injEq] at h; subst h; exact pss_nilI
      | cons st sts =>
        unfold compSs at h
        cases q : compSs n c sts with
        | none => rw [q] at h; cases h
        | some b =>
          rw [q] at h
          cases h
          refine pss_consI ?_ (ihL X W c O sts b q)
          cases q2 : compS n c st with
          | none => exact ps_badI
          | some a => exact ihS X W c O st a q2
    have E := (compE_both (S := S) (C := C) n).1 X W c O.e
    have Tt := (compE_both (S := S) (C := C) n).2 X W c O.e
    unfold compS at h
    split at h
    · cases h; exact ps_passI
    · cases h; exact ps_brkI
    · cases h; exact ps_contI
    · cases h; exact ps_docI
    · rename_i o m apos e cpos p2
      split at h
      · rename_i hm
        subst hm
        split at h
        · rename_i hq
          simp only [Bool.and_eq_true, Bool.not_eq_true'] at hq
          split at h
          · rename_i io ie h1 h2
            cases h
            have hs : ¬ isStar e = true := by rw [hq.1.2]; decide
            refine psI (ps_expr (pe_bm F.plainAttrs_list F.slot_list_append rfl mt_append (E o io h1) (pa_cons (E e ie h2) pa_nil (star_no (star_of hs))) (plainObj_hb hq.1.1) (by rw [star_no (star_of hs)] <;> rfl) hq.2 (star_no (star_of hs)) (by rfl)) (by rfl)) fun D σ H q => ?_
            rw [O.e.K]
            exact rS_app q
          · cases h
        · cases h
      · cases q : compE n c (.Call (.Attribute o m apos) [e] [] cpos) with
        | none => rw [q] at h; cases h
        | some ie =>
          rw [q] at h
          cases h
          exact ps_dropI (E _ ie q) (swaps_no (by intro z; cases z))
    · rename_i e p _ _
      split at h
      · cases h
      · rename_i hc
        cases q : compE n c e with
        | none => rw [q] at h; cases h
        | some ie =>
          rw [q] at h
          cases h
          exact ps_dropI (E e ie q) (swaps_no hc)
    · rename_i o f tp e pos
      split at h
      · cases h
      · rename_i hc
        split at h
        · rename_i p io ie h1 h2 h3
          cases h
          obtain ⟨ff, na⟩ := O.e.tab.flds f p.1 p.2 h1
          refine psI (ps_fld (E o io h2) (compV_ok O.e h3) (swaps_no hc)) fun D σ H q => ?_
          rw [O.e.K]
          exact rS_setf O.e.tab.base ff na q
        · cases h
    · rename_i x px f fp ts k tp e pos
      split at h
      · cases h
      · rename_i hc
        rw [Bool.or_eq_true, not_or] at hc
        have hcalm : c.calm = true := by
          cases q : c.calm with
          | true => rfl
          | false => exact absurd (by rw [q]; rfl) hc.2
        split at h
        · rename_i fs h0
          split at h
          · rename_i fl i ie h1 h2 h3
            cases h
            obtain ⟨e1, e2⟩ := fldIds_ok O.e h1
            refine psI (ps_asg (E e ie h3) (pg_tup (n := fl.length) (O.e.calm hcalm) (attrs_ok O.e h2 h0) (by rw [(attrTs_as h0).1, ← e1, List.length_map]) (attrTs_as h0).2) (soles_no hc.1) (swap_off (by rw [O.e.sc]; exact attrTs_off h0))) fun D σ H q => ?_
            have q2 := rS_setfs O.e.tab.base e2 q
            rw [e1] at q2
            rw [O.e.K]
            exact q2
          · cases h
        · cases h
    · cases h; exact ps_retNI
    · rename_i e p
      cases q : compV n c (c.muts.contains "return") e with
      | none => rw [q] at h; cases h
      | some ie =>
        rw [q] at h
        cases h
        exact ps_retI (compV_ok O.e q)
    · rename_i x p' e pos
      split at h
      · rename_i hx
        rw [Bool.and_eq_true, Bool.or_eq_true, Bool.and_eq_true] at hx
        obtain ⟨hx, pl⟩ := hx
        split at h
        · rename_i i hi
          split at h
          · cases h
          rename_i hcm
          have hcalm : c.calm = true := by
            cases q : c.calm with
            | true => rfl
            | false => exact absurd (by rw [q]; rfl) hcm
          have hN : X.N[i]? = some x := by rw [O.e.N]; exact slotOf_get hi
          have hlf : Loc X.env.scope x ∧ (X.fn x = true ∨ X.env.scope.names.lookup x = some .local) := by
            rcases hx with q | ⟨q1, q2⟩
            · have k : X.env.scope.names.lookup x = some .local := by rw [O.e.sc]; exact eq_of_beq q
              exact ⟨.inl k, .inr k⟩
            · have k : X.env.scope.names.lookup x = some .cell := by rw [O.e.sc]; exact eq_of_beq q2
              exact ⟨.inr k, .inl (O.e.fn q1 x)⟩
          split at h
          · rename_i elt tg iter ifs scope p
            split at h
            · rename_i hq
              simp only [Bool.and_eq_true, Bool.not_eq_true'] at hq
              obtain ⟨⟨⟨q1, q2⟩, q3⟩, q4⟩ := hq
              cases q : compLc c n (compE n) (compT n) elt tg iter ifs scope with
              | none => rw [q] at h; cases h
              | some ie =>
                rw [q] at h
                cases h
                obtain ⟨t, own, it, cs, e, rfl, bo, sl, p1, p2, p3, p4, p5⟩ := compLc_ok O.e hcalm (compE_both n).1 (compE_both n).2 q
                have kl : X.env.scope.names.lookup x = some .local := by rw [O.e.sc]; exact eq_of_beq q1
                refine psI (ps_setLc (O.e.calm hcalm) O.e.nd hN kl (sw_true (isFun_of O.e q2) kl q3 q4) p1 bo p3 p4 p5 p2) fun D σ H q => ?_
                obtain ⟨μ, F, env, M, f, hM, hE, hd, hk⟩ := q
                unfold denS at hd
                refine rE_lc sl (rE_bndS hM hE hd hk fun μ1 F1 H1 v M1 w a m e1 r h1 k1 => ?_)
                cases h1
                exact k1 μ1 F1 H1 _ Aft.refl m (e1.set i r)
            · cases h
          · rename_i hn
            split at h
            · cases h
            · rename_i hc
              cases q : compV n c (c.muts.contains x) e with
              | none => rw [q] at h; cases h
              | some ie =>
                rw [q] at h
                cases h
                exact ps_setI O.e.nd hN hlf.1 (compV_ok O.e q) (swaps_no hc) hlf.2
        · cases h
      · cases h
    · rename_i ts k tp e pos _
      split at h
      · cases h
      rename_i hcm
      have hcalm : c.calm = true := by
        cases q : c.calm with
        | true => rfl
        | false => exact absurd (by rw [q]; rfl) hcm
      have many : ∀ {t : List Tg} {ie : IE}, compTgs c (n + 1) ts = some t → compE n c e = some ie → ¬ isComp e = true → swappedStores [.Tuple ts k tp] e X.env = pure none → PS X (.Assign [.Tuple ts k tp] e pos) (rS S C W (.set (.tp t) ie)) := by
        intro t ie h1 h2 h3 h4
        obtain ⟨k1, k2, k3⟩ := (compTg_both O.e hcalm (n + 1)).2 ts t h1
        exact ps_tpI O.e.K (O.e.calm hcalm) k1 k2 k3 (E e ie h2) (soles_no h3) h4
      split at h
      · rename_i hoff
        split at h
        · cases h
        · rename_i hc
          split at h
          · rename_i t ie h1 h2
            cases h
            exact many h1 h2 hc (swap_off (by rw [O.e.sc]; exact hoff))
          · cases h
      split at h
      · rename_i vs k2 p2
        split at h
        · rename_i x px y py a b _ho _
          split at h
          · cases h
          · rename_i hs
            rw [Bool.or_eq_true, not_or, Bool.not_eq_true, Bool.not_eq_true] at hs
            split at h
            · rename_i hf
              split at h
              · rename_i t ie h1 h2
                cases h
                exact many h1 h2 (by intro z; cases z) (swap2c hf hs.1 hs.2)
              · cases h
            · rename_i hf
              rw [Bool.not_eq_true] at hf
              split at h
              · rename_i hq
                simp only [Bool.and_eq_true, Bool.not_eq_true'] at hq
                obtain ⟨⟨⟨⟨⟨q1, q2⟩, q3⟩, q4⟩, q5⟩, q6⟩ := hq
                split at h
                · rename_i i j ies h1 h2 h3
                  cases h
                  have hxy : x ≠ y := beq_no (by rw [q5] <;> rfl)
                  have l1 := isLoc_of O.e q1
                  have l2 := isLoc_of O.e q2
                  exact ps_par2I (O.e.calm hcalm) O.e.nd (by rw [O.e.N]; exact slotOf_get h1) (by rw [O.e.N]; exact slotOf_get h2) (slot_ne h1 h2 hxy) l1 l2 (parVs_ok O.e h3)
                    (swap2 (isFun_of O.e q3) l1 l2 q4 hxy hs.1 hs.2 hf q6)
                · cases h
              · cases h
        · rename_i x px y py z pz a b d _ho _
          split at h
          · cases h
          · rename_i hs
            simp only [Bool.or_eq_true, not_or, Bool.not_eq_true] at hs
            obtain ⟨⟨⟨s1, s2⟩, s3⟩, hf⟩ := hs
            split at h
            · rename_i hq
              simp only [Bool.and_eq_true, Bool.not_eq_true'] at hq
              obtain ⟨⟨⟨⟨⟨⟨⟨⟨⟨q1, q2⟩, q3⟩, q4⟩, q5⟩, q6⟩, q7⟩, q8⟩, q9⟩, qa⟩ := hq
              split at h
              · rename_i i j l ies h1 h2 h3 h4
                cases h
                have n1 : x ≠ y := beq_no (by rw [q7] <;> rfl)
                have n2 : x ≠ z := beq_no (by rw [q8] <;> rfl)
                have n3 : y ≠ z := beq_no (by rw [q9] <;> rfl)
                have l1 := isLoc_of O.e q1
                have l2 := isLoc_of O.e q2
                have l3 := isLoc_of O.e q3
                exact ps_par3I (O.e.calm hcalm) O.e.nd (by rw [O.e.N]; exact slotOf_get h1) (by rw [O.e.N]; exact slotOf_get h2) (by rw [O.e.N]; exact slotOf_get h3) (slot_ne h1 h2 n1) (slot_ne h1 h3 n2) (slot_ne h2 h3 n3) l1 l2 l3 (parVs_ok O.e h4)
                  (swap3 (isFun_of O.e q4) l1 l2 l3 q5 q6 n1 n2 n3 s1 s2 s3 hf qa)
              · cases h
            · cases h
        · split at h
          · cases h
          · rename_i hl
            rw [Bool.not_eq_true] at hl
            split at h
            · split at h
              · rename_i is ies h1 h2
                split at h
                · rename_i hz
                  cases h
                  obtain ⟨g1, g2, g3⟩ := parIs_ok O.e h1
                  exact ps_parN O.e.K (O.e.calm hcalm) hz g1 g2 g3 (parVs_ok O.e h2) (soles_no (by intro z; cases z)) (swap_len hl)
                · cases h
              · cases h
            split at h
            · rename_i t ie h1 h2
              cases h
              exact many h1 h2 (by intro z; cases z) (swap_len hl)
            · cases h
      · rename_i hn
        split at h
        · cases h
        · rename_i hc
          split at h
          · rename_i t ie h1 h2
            cases h
            exact many h1 h2 hc (swap_no fun a b d z => hn a b d z)
          · cases h
    · rename_i o i tp e pos
      split at h
      · cases h
      · rename_i hs
        rw [Bool.or_eq_true, not_or] at hs
        split at h
        · rename_i io ii ie h1 h2 h3
          cases h
          refine ps_setixI (E o io h1) (E i ii h2) (E e ie h3) (fun v => ?_) (soles_no hs.2) rfl
          have hsl := hs.1
          cases i <;> first | rfl | exact absurd rfl hsl
        · cases h
    · rename_i x px y py e pos
      split at h
      · cases h
      · rename_i hc
        split at h
        · rename_i hq
          rw [Bool.and_eq_true] at hq
          split at h
          · rename_i i j ie h1 h2 h3
            cases h
            have l1 := isLoc_of O.e hq.1
            have l2 := isLoc_of O.e hq.2
            exact psI (ps_asg2 (E e ie h3) (pg_name O.e.nd (by rw [O.e.N]; exact slotOf_get h1) (.inl l1) (.inr l1)) (pg_name O.e.nd (by rw [O.e.N]; exact slotOf_get h2) (.inl l2) (.inr l2)) rfl (by rfl)) fun D σ H q => rS_asg2 q
          · cases h
        · cases h
    · rename_i t a b p
      split at h
      · rename_i it x y h1 h2 h3
        cases h
        exact ps_ifI (Tt t it h1) (ihL X W c O a x h2) (ihL X W c O b y h3)
      · cases h
    · rename_i t a p
      split at h
      · rename_i it x h1 h2
        cases h
        exact ps_whlI O.passes (Tt t it h1) (ihL X W c O a x h2)
      · cases h
    · rename_i tg iter a p
      split at h
      · cases h
      rename_i hcm
      have hcalm : c.calm = true := by
        cases q : c.calm with
        | true => rfl
        | false => exact absurd (by rw [q]; rfl) hcm
      split at h
      · rename_i t it x h1 h2 h3
        cases h
        obtain ⟨k1, k2⟩ := compI_ok (tg := tg) O.e E h2
        exact ps_forI O.passes (O.e.calm hcalm) k1 ((compTg_both O.e hcalm n).1 tg t h1) (ihL X W c O a x h3) k2
      · cases h
    · rename_i x p m j p2 p3 p4
      split at h
      · rename_i hg
        rw [Bool.and_eq_true] at hg
        cases q : c.t.xs.lookup x with
        | none => rw [q] at h; cases h
        | some k =>
          rw [q] at h
          cases h
          exact ps_raiseI O.e hg.2 hg.1 q
      · cases h
    · rename_i body h₁ hds p
      split at h
      · split at h
        · rename_i b hs h1 h2
          split at h
          · rename_i hq
            cases h
            exact ps_tryI O (fun W pn xe O' => ihL _ W c O' _ b h1) (fun a pn sts ss hf => ihL _ _ _ O.suite _ _ hf) h2 hq
          · cases h
        · cases h
      · cases h
    · cases h
end
end PyI

/-! PyI 11: defs keep what the oracle says. -/
namespace PyI
open PySem PySem.Spec PyProof.Rows L2
open Evl (Ex)

/-- a def of the text, by the number it has everywhere -/
structure DefT where
  g : Nat
  x : Str
  qual : Str
  st : Stmt
  N : List Str
  ps : List Str
  pv : Option Str
  fn : Fn
  muts : List Str
def DefT.ctx (d : DefT) (t : Tb) : Ctx := ⟨d.N, defScope d.st, true, t, d.muts, true⟩
def DefT.all (d : DefT) : List Str := match d.pv with
  | none => d.ps
  | some y => d.ps ++ [y]
def BindsOk (d : DefT) : Prop := match d.pv with
  | none => ∀ (kV doc pm : Value) (an : Option Addr) (cdv ct : Value) (us : List Value), us.length = d.ps.length → bindArgs (PySem.W.fnOf d.x d.qual (defArgs d.st) (defBody d.st) (defScope d.st) .none kV doc pm an cdv ct) ⟨us, []⟩ = pure (d.ps.zip us)
  | some y => ∀ (kV doc pm : Value) (an : Option Addr) (cdv ct : Value) (us rest : List Value), us.length = d.ps.length →
      bindArgs (PySem.W.fnOf d.x d.qual (defArgs d.st) (defBody d.st) (defScope d.st) .none kV doc pm an cdv ct) ⟨us ++ rest, []⟩ = (newTuple rest >>= fun t => pure (d.ps.zip us ++ [(y, t)]))
/-- what is read off the text -/
structure DefT.Ok (d : DefT) (t : Tb) : Prop where
  comp : compSs 200 (d.ctx t) (defBody d.st) = some d.fn.body
  scope : FnScope d.N d.all (defScope d.st)
  ns : d.fn.ns = d.N.length
  np : d.fn.np = d.ps.length
  star : d.fn.star = d.pv.isSome
/-- the function object -/
def FunG (K : PySem.W.Frag) (d : DefT) (f : Addr) (fd : FuncData) : Prop := ∃ (oc : Value) (od : Option Addr) (dV kV doc pm : Value) (an : Option Addr) (cdv ct : Value) (osl : Array (Option Value)),
  fd = PySem.W.fnOf d.x d.qual (defArgs d.st) (defBody d.st) (defScope d.st) dV kV doc pm an cdv ct ∧ K.lookup f = some ⟨oc, od, .func fd, osl⟩ ∧ PySem.W.codeIn K cdv d.qual = true ∧ ((dV = .none ∧ BindsOk d) ∨ (d.pv = none ∧ Binds K fd d.ps []))

/-- the promise of a body: the arguments are bound -/
def spB (S : Sta) (C : Orc) (G : Fn) : Sp := fun vs H Q E => ∃ μ F as M r, MemR S μ F M H ∧ RepVs S F μ M.length as vs ∧ endFn G.keep M.length (denSs C G.body (startE G.ns as) M) = some r ∧ KF S μ F H M.length Q E r

section
variable {S : Sta} {C : Orc}
theorem repVs_1 {F : Hp} {μ : Nat → Addr} {k : Nat} {x : D} {v : V} (h : RepD S F x v) : RepVs S F μ k [.d x] [v] := ⟨h, trivial⟩
theorem repVs_get {F : Hp} {μ : Nat → Addr} {k : Nat} : ∀ {as : List Val} {vs : List V} {i : Nat} {a : Val}, RepVs S F μ k as vs → as[i]? = some a → ∃ v, vs[i]? = some v ∧ RepV S F μ k a v
  | [], vs, i, a, h, e => by simp at e
  | b :: as, vs, i, a, h, e => by
    obtain ⟨v, ws, rfl, h1, h2⟩ := h.cons
    cases i with
    | zero =>
      have e : b = a := by simpa using e
      subst e
      exact ⟨v, rfl, h1⟩
    | succ i => exact repVs_get (i := i) h2 (by simpa using e)
theorem env_start {F : Hp} {μ : Nat → Addr} {k : Nat} {as : List Val} {vs : List V} {N : List Str} (h : RepVs S F μ k as vs) : EnvR S μ F k (startE N.length as) (start N vs) := by
  have hl := h.len
  refine ⟨by simp [startE, L2.start, hl], fun i v e => ?_⟩
  unfold startE at e
  by_cases hi : i < as.length
  · rw [List.getElem?_append_left (by simpa using hi), List.getElem?_map] at e
    cases q : as[i]? with
    | none => rw [q] at e; cases e
    | some a =>
      rw [q] at e
      cases e
      obtain ⟨w, h1, h2⟩ := repVs_get h q
      refine ⟨w, ?_, h2⟩
      unfold L2.start
      rw [List.getElem?_append_left (by rw [List.length_map, ← hl]; exact hi), List.getElem?_map, h1] <;> rfl
  · rw [List.getElem?_append_right (by simpa using hi), List.getElem?_replicate] at e
    split at e <;> cases e
/-- the cells that the def made are dropped -/
theorem cut_ok {μ μ1 : Nat → Addr} {F H F1 H1 : Hp} {M M1 : Mem} (a : Aft μ F H M.length μ1 F1 H1 M1.length) (m : MemR S μ1 F1 M1 H1) : Aft μ F H M.length μ1 F1 H1 (M1.take M.length).length ∧ MemR S μ1 F1 (M1.take M.length) H1 := by
  have e : (M1.take M.length).length = M.length := by rw [List.length_take]; exact Nat.min_eq_left a.le
  exact ⟨by rw [e]; exact a.cut (Nat.le_refl _) a.le, m.take _⟩
theorem ret_ok {μ μ1 : Nat → Addr} {F H F1 H1 : Hp} {M M1 : Mem} {keep : Bool} {v : Val} {w : V} {r : R Val} {Q : VK} {E : XK} (a : Aft μ F H M.length μ1 F1 H1 M1.length) (m : MemR S μ1 F1 M1 H1) (rv : RepV S F1 μ1 M1.length v w)
    (h : endRet keep M.length v M1 = some r) (k : KF S μ F H M.length Q E r) : Q w H1 := by
  obtain ⟨a2, m2⟩ := cut_ok a m
  have el : (M1.take M.length).length = M.length := by rw [List.length_take]; exact Nat.min_eq_left a.le
  unfold endRet at h
  cases v with
  | d x =>
    cases h
    exact k μ1 F1 H1 w a2 m2 rv
  | rf n =>
    obtain ⟨hn, rfl⟩ := (show n < M1.length ∧ w = V.ref (μ1 n) from rv)
    simp only at h
    by_cases hk : n < M.length
    · rw [if_pos hk] at h
      cases h
      exact k μ1 F1 H1 _ a2 m2 ⟨by rw [el]; exact hk, rfl⟩
    · rw [if_neg hk] at h
      cases hc : M1[n]? with
      | none => rw [hc] at h; cases h
      | some c =>
        rw [hc] at h
        cases c with
        | lst xs =>
          simp only at h
          cases keep with
          | false =>
            rw [if_neg (by decide)] at h
            cases h
            obtain ⟨F2, h1, h2, h3, h4⟩ := m.freeze hc
            have hs : (M1.set n (.frz xs)).take M.length = M1.take M.length := List.take_set_of_le (by omega)
            obtain ⟨a4, m4⟩ := cut_ok (a.trans h3) h2
            rw [hs] at a4 m4
            exact k μ1 F2 H1 _ a4 m4 h4
          | true =>
            rw [if_pos rfl] at h
            cases h
            -- the cell moves to the place behind the caller's
            obtain ⟨c1, vs, c2, c3⟩ := m.cell n _ hc
            have old : ∀ i, i < M.length → (if i = M.length then μ1 n else μ1 i) = μ1 i := fun i hi => if_neg (by omega)
            refine k (fun i => if i = M.length then μ1 n else μ1 i) F1 H1 _ ⟨a.f, by simp [el], fun i hi => ?_, a.fr, a.dom, fun i h1 h2 => ?_, fun x o q => ?_⟩ ⟨m.sub, fun i d q => ?_, fun i j hi hj e => ?_⟩ ⟨by simp [el], ?_⟩
            · show (if i = M.length then μ1 n else μ1 i) = μ i
              rw [old i hi]; exact a.mu i hi
            · have e : i = M.length := by simp [el] at h2; omega
              show H (if i = M.length then μ1 n else μ1 i) = none
              rw [if_pos e]
              exact a.new n (by omega) hn
            · rcases a.fn x o q with z | z | ⟨i, z1, z2⟩
              · exact .inl z
              · exact .inr (.inl z)
              · by_cases hi : i < M.length
                · exact .inr (.inr ⟨i, by simp [el]; omega, by show x = (if i = M.length then μ1 n else μ1 i); rw [old i hi]; exact z2⟩)
                · exact .inr (.inl (by rw [z2]; exact a.new i (by omega) z1))
            · by_cases hi : i < M.length
              · rw [List.getElem?_append_left (by rw [el]; exact hi)] at q
                show CellR S F1 H1 (if i = M.length then μ1 n else μ1 i) d
                rw [old i hi]
                exact m2.cell i d q
              · rw [List.getElem?_append_right (by rw [el]; omega), el] at q
                have e : i = M.length := by
                  cases e : i - M.length with
                  | zero => omega
                  | succ j => rw [e] at q; simp at q
                subst e
                have q : Cell.lst xs = d := by simpa using q
                subst q
                show CellR S F1 H1 (if M.length = M.length then μ1 n else μ1 M.length) (.lst xs)
                rw [if_pos rfl]
                exact ⟨c1, vs, c2, c3⟩
            · have e : (if i = M.length then μ1 n else μ1 i) = (if j = M.length then μ1 n else μ1 j) := e
              simp [el] at hi hj
              by_cases h1 : i = M.length
              · by_cases h2 : j = M.length
                · omega
                · rw [if_pos h1, if_neg h2] at e
                  have z := m.inj n j hn (by have := a.le; omega) e
                  omega
              · by_cases h2 : j = M.length
                · rw [if_neg h1, if_pos h2] at e
                  have z := m.inj i n (by have := a.le; omega) hn e
                  omega
                · rw [if_neg h1, if_neg h2] at e
                  have := a.le
                  exact m.inj i j (by omega) (by omega) e
            · show V.ref (μ1 n) = V.ref (if M.length = M.length then μ1 n else μ1 M.length)
              rw [if_pos rfl]
        | frz xs =>
          cases h
          obtain ⟨vs, c2, c3⟩ := m.cell n _ hc
          exact k μ1 F1 H1 _ a2 m2 (rep_lst c2 c3)
        | tup xs =>
          cases h
          obtain ⟨vs, o, c2, _, c3⟩ := m.cell n _ hc
          exact k μ1 F1 H1 _ a2 m2 (rep_tup (.inl (.inr ⟨o, c2⟩)) c3)
        | ins c fs => cases h
        | gone => cases h
/-- a body's reading at its start -/
theorem body_start {G : Fn} {W : WX} {N : List Str} {vs : List V} {H : Hp} {Q : VK} {E : XK} (hN : G.ns = N.length) (hW : W = fun cls d _ H => E cls d H) (h : spB S C G vs H Q E) : rSs S C W G.body { nx := fun _ H' => Q .non H', rt := Q } (start N vs) H := by
  subst hW
  obtain ⟨μ, F, as, M, r, hM, hv, hd, hk⟩ := h
  rw [hN] at hd
  unfold endFn at hd
  split at hd
  · rename_i env1 M1 e
    cases hd
    refine ⟨μ, F, _, M, _, hM, env_start hv, e, fun μ1 F1 H1 σ1 a m ee => ?_⟩
    obtain ⟨a2, m2⟩ := cut_ok a m
    exact hk μ1 F1 H1 _ a2 m2 (rep_non (S := S) (F := F1))
  · rename_i v M1 e
    exact ⟨μ, F, _, M, _, hM, env_start hv, e, fun μ1 F1 H1 w a m rv => ret_ok a m rv hd hk⟩
  · rename_i x env1 M1 e
    cases hd
    refine ⟨μ, F, _, M, _, hM, env_start hv, e, fun μ1 F1 H1 σ1 cls d a m ee rx => ?_⟩
    obtain ⟨a2, m2⟩ := cut_ok a m
    exact hk μ1 F1 H1 cls d a2 m2 rx
  · cases hd
end

/-! ### the program -/
/-- the defs, at a level -/
structure RunsB (S : Sta) (C : Orc) (P : Program) (w : World) (mg : Str → Option Value) (base : Heap) (k : Nat) : Prop where
  len : ∀ g, S.fix g = true → ∀ as M r, C g as M = some r → as.length = (S.ps g).length
  r : ∀ g, GoR P w S.K mg base (L2.CX P w) k (S.fa g) (spF S C g)
  f : ∀ g, S.fix g = true → GoF P w S.K mg base (L2.CX P w) k (S.fa g) (S.fd g) (S.ps g) (fun vs H Q E => vs.length = (S.ps g).length ∧ spF S C g vs H Q E)
section
variable {P : Program} {w : World} {mg : Str → Option Value} {base : Heap} {S : Sta} {t : Tb}
/-- the context of a def's body is fit -/
theorem ctx_ok {C : Orc} {d : DefT} {l : Nat} {A : Around} {outer : List PySem.Env} {s : Shared} {H : Hp} {E : XK} {f : Addr} {cdv : Value} (ok : d.Ok t) (T : TabOk S mg t) (R : RunsB S C P w mg base l)
    (hg : A.guards = some []) (hr : Room (l + 1) (A.deeper (envOfC d.qual (defScope d.st) s.heap.objs.size f cdv))) :
    XOkS S C (fun cls d _ H => E cls d H) (cxOf (L2.CX P w) P w S.K mg base d.N d.qual (defScope d.st) f cdv A outer s H E) (d.ctx t) where
  e := {
    K := rfl
    calm := fun _ => rfl
    nd := ok.scope.nd
    N := rfl
    sc := rfl
    fn := fun _ _ => rfl
    takes := takes_of rfl rfl rfl rfl
    units := by
      have := hr.un
      show (A.deeper (envOfC d.qual (defScope d.st) s.heap.objs.size f cdv)).units + 200 < cLine
      omega
    tab := T
    runs := fun _ => ⟨hg, l, hr, ⟨R.len, R.r, R.f⟩⟩ }
  stack := rfl
  frame := rfl
  passes := passes_of rfl
theorem body_ok {C : Orc} {d : DefT} {l : Nat} {f : Addr} (ok : d.Ok t) (T : TabOk S mg t) (R : RunsB S C P w mg base l) (cdv : Value) (A : Around) (outer : List PySem.Env) (s : Shared) (H : Hp) (vs : List V) (Q : VK) (E : XK)
    (hg : A.guards = some []) (hr : Room (l + 1) (A.deeper (envOfC d.qual (defScope d.st) s.heap.objs.size f cdv))) (h : spB S C d.fn vs H Q E) :
    ∃ t, PSs (cxOf (L2.CX P w) P w S.K mg base d.N d.qual (defScope d.st) f cdv A outer s H E) (defBody d.st) t ∧ t { nx := fun _ H' => Q .non H', rt := Q } (start d.N vs) H :=
  ⟨_, (compS_both (S := S) (C := C) 200).2 _ _ _ (ctx_ok ok T R hg hr) _ _ ok.comp, body_start ok.ns rfl h⟩
/-- a def without a starred parameter -/
theorem def_fix {C : Orc} {d : DefT} {l : Nat} {f : Addr} {fd : FuncData} (ok : d.Ok t) (T : TabOk S mg t) (R : RunsB S C P w mg base l) (G : FunG S.K d f fd) (hp : d.pv = none) :
    GoF P w S.K mg base (L2.CX P w) (l + 2) f fd d.ps (fun vs H Q E => vs.length = d.ps.length ∧ spB S C d.fn vs H Q E) := by
  have sc := ok.scope
  unfold DefT.all at sc
  rw [hp] at sc
  obtain ⟨oc, od, dV, kV, doc, pm, an, cdv, ct, osl, rfl, lk, hcd, hbd⟩ := G
  exact gof_of lk hcd sc (fun vs H Q E h => h.1) fun A outer s H vs Q E hg hr h => body_ok ok T R cdv A outer s H vs Q E hg hr h.2
theorem binds_all {d : DefT} {f : Addr} {fd : FuncData} (ok : d.Ok t) (G : FunG S.K d f fd) (hp : d.pv = none) : Binds S.K fd d.ps [] := by
  obtain ⟨oc, od, dV, kV, doc, pm, an, cdv, ct, osl, rfl, lk, hcd, hbd⟩ := G
  rcases hbd with ⟨rfl, bo⟩ | ⟨_, h⟩
  · unfold BindsOk at bo
    rw [hp] at bo
    intro s us kin hl
    rw [List.append_nil]
    exact .of_eq (bo kV doc pm an cdv ct us (by simpa using hl))
  · exact h
/-- the promise of the def, over the calls below -/
def spC (S : Sta) (C : Orc) (G : Fn) : Sp := fun vs H Q E => ∃ μ F as M ws M1 r, MemR S μ F M H ∧ RepVs S F μ M.length as vs ∧ args G as M = some (ws, M1) ∧ endFn G.keep M.length (denSs C G.body (startE G.ns ws) M1) = some r ∧ KF S μ F H M.length Q E r
theorem spC_fix {C : Orc} {d : DefT} (ok : d.Ok t) (hp : d.pv = none) {vs : List V} {H : Hp} {Q : VK} {E : XK} (h : spC S C d.fn vs H Q E) : vs.length = d.ps.length ∧ spB S C d.fn vs H Q E := by
  have st := ok.star
  rw [hp] at st
  have st : d.fn.star = false := st
  obtain ⟨μ, F, as, M, ws, M1, r, hM, hv, ha, hd, hk⟩ := h
  unfold args at ha
  rw [st, if_neg (by decide)] at ha
  split at ha
  · rename_i hl
    cases ha
    exact ⟨by rw [← hv.len, hl, ok.np], μ, F, as, M, r, hM, hv, hd, hk⟩
  · cases ha
theorem def_any {C : Orc} {d : DefT} {l : Nat} {f : Addr} {fd : FuncData} (ok : d.Ok t) (T : TabOk S mg t) (R : RunsB S C P w mg base l) (G : FunG S.K d f fd) : GoR P w S.K mg base (L2.CX P w) (l + 2) f (spC S C d.fn) := by
  cases hp : d.pv with
  | none =>
    refine ((def_fix ok T R G hp).raw (binds_all ok G hp) .nil).imp fun vs H Q E h => ?_
    rw [List.append_nil]
    exact spC_fix ok hp h
  | some y =>
    have sc := ok.scope
    have st := ok.star
    unfold DefT.all at sc
    rw [hp] at sc st
    have st : d.fn.star = true := st
    obtain ⟨oc, od, dV, kV, doc, pm, an, cdv, ct, osl, rfl, lk, hcd, hbd⟩ := G
    rcases hbd with ⟨rfl, bo⟩ | ⟨h, _⟩
    rotate_left
    · rw [hp] at h; cases h
    unfold BindsOk at bo
    rw [hp] at bo
    have G1 := gor_star (CT := L2.CX P w) (P := P) (w := w) (K := S.K) (mg := mg) (base := base) (k := l + 1) (sp := spB S C d.fn) lk hcd sc StX.cxUp (bo kV doc pm an cdv ct) fun A outer s H vs Q E hg hr h => body_ok ok T R cdv A outer s H vs Q E hg hr h
    refine GoR.imp G1 fun vs H Q E h => ?_
    obtain ⟨μ, F, as, M, ws, M1, r, hM, hv, ha, hd, hk⟩ := h
    unfold args at ha
    rw [st, if_pos rfl] at ha
    split at ha
    · rename_i hl
      cases q : holds M (as.drop d.fn.np) with
      | none => rw [q] at ha; cases ha
      | some p =>
        obtain ⟨ds, M2⟩ := p
        simp only [q] at ha
        split at ha
        · rename_i hz
          cases ha
          obtain ⟨F2, m2, a2, r2⟩ := holds_ok hM (hv.drop d.fn.np) q
          have lv := hv.len
          refine ⟨vs.take d.fn.np, vs.drop d.fn.np, (List.take_append_drop _ _).symm, by rw [List.length_take, ← ok.np]; omega, by rw [← repL_len r2]; exact hz, fun p hp => ?_⟩
          have g := Grow.one m2.sub (.tup (vs.drop d.fn.np)) hp
          have el : M.length = M1.length := by
            have : ∀ {vs : List Val} {M M1 : Mem} {xs : List D}, holds M vs = some (xs, M1) → M.length = M1.length := by
              intro vs
              induction vs with
              | nil => intro M M1 xs h; cases h; rfl
              | cons v vs ih =>
                intro M M1 xs h
                unfold holds at h
                cases e1 : v.hold M with
                | none => rw [e1] at h; cases h
                | some p =>
                  obtain ⟨x, M3⟩ := p
                  rw [e1] at h
                  have l1 : M.length = M3.length := by
                    cases v with
                    | d y => cases e1; rfl
                    | rf n =>
                      rw [hold_rf] at e1
                      split at e1 <;> first | (cases e1; simp) | cases e1
                  cases e2 : holds M3 vs with
                  | none => simp only [e2] at h; cases h
                  | some p =>
                    obtain ⟨ys, M4⟩ := p
                    simp only [e2] at h
                    cases h
                    exact l1.trans (ih e2)
            exact this q
          rw [el] at hd
          refine ⟨μ, upd F2 p (.tup (vs.drop d.fn.np)), _, M1, r, m2.grow g, ((hv.take d.fn.np).aft (a2.trans g.aft)).append (repVs_1 (rep_tup (Evl.st_of upd_same) (repL_ex g.f _ r2))), hd, ?_⟩
          cases r with
          | ok v M3 => exact fun μ' F' H' w a m q => hk μ' F' H' w ((a2.trans g.aft).trans a) m q
          | ex x M3 => exact fun μ' F' H' c d a m q => hk μ' F' H' c d ((a2.trans g.aft).trans a) m q
        · cases ha
    · cases ha
/-- the defs of a text -/
structure DefsOk (S : Sta) (t : Tb) (defs : List DefT) : Prop where
  ok : ∀ d ∈ defs, d.Ok t
  fn : ∀ d ∈ defs, ∃ fd, FunG S.K d (S.fa d.g) fd
  fix : ∀ d ∈ defs, S.fix d.g = true → d.pv = none ∧ FunG S.K d (S.fa d.g) (S.fd d.g) ∧ S.ps d.g = d.ps
def tabOf (defs : List DefT) : Tab := fun g => (defs.find? fun d => d.g == g).map (·.fn)
theorem tabOf_some {defs : List DefT} {g : Nat} {G : Fn} (h : tabOf defs g = some G) : ∃ d ∈ defs, d.g = g ∧ d.fn = G := by
  unfold tabOf at h
  cases q : defs.find? (fun d => d.g == g) with
  | none => rw [q] at h; cases h
  | some d =>
    rw [q] at h
    cases h
    exact ⟨d, List.mem_of_find?_eq_some q, by simpa using List.find?_some q, rfl⟩
theorem callD_some {T : Tab} {l f : Nat} {as : List Val} {M : Mem} {r : R Val} (h : callD T (l + 1) f as M = some r) : ∃ G ws M1, T f = some G ∧ args G as M = some (ws, M1) ∧ endFn G.keep M.length (denSs (callD T l) G.body (startE G.ns ws) M1) = some r := by
  unfold callD at h
  cases q : T f with
  | none => rw [q] at h; cases h
  | some G =>
    rw [q] at h
    simp only at h
    cases q2 : args G as M with
    | none => simp only [q2] at h; cases h
    | some p =>
      obtain ⟨ws, M1⟩ := p
      simp only [q2] at h
      exact ⟨G, ws, M1, rfl, q2, h⟩
/-- every def of the program, at every level -/
theorem all_ok {defs : List DefT} (T : TabOk S mg t) (D : DefsOk S t defs) : ∀ l : Nat, RunsB S (callD (tabOf defs) l) P w mg base (2 * l) := by
  intro l
  induction l with
  | zero =>
    refine ⟨fun g hf as M r h => (by cases h), fun g A outer s H us vs Q E hg hr e0 r h => ?_, fun g hf => ⟨fun vs H Q E h => h.1, fun A outer s H as us vs Q E hg hr e0 hb r h => ?_⟩⟩
    · obtain ⟨μ, F, as, M, r, _, _, z, _⟩ := h
      cases z
    · obtain ⟨_, μ, F, as, M, r, _, _, z, _⟩ := h
      cases z
  | succ l ih =>
    have up : ∀ {g vs H Q E}, spF S (callD (tabOf defs) (l + 1)) g vs H Q E → ∃ d ∈ defs, d.g = g ∧ spC S (callD (tabOf defs) l) d.fn vs H Q E := by
      intro g vs H Q E h
      obtain ⟨μ, F, as, M, r, hM, hv, hc, hk⟩ := h
      obtain ⟨G, ws, M1, h1, h2, h3⟩ := callD_some hc
      obtain ⟨d, hd, e1, e2⟩ := tabOf_some h1
      subst e2
      exact ⟨d, hd, e1, μ, F, as, M, ws, M1, r, hM, hv, h2, h3, hk⟩
    refine ⟨fun g hf as M r h => ?_, fun g A outer s H us vs Q E hg hr e0 r h => ?_, fun g hf => ⟨fun vs H Q E h => h.1, fun A outer s H as us vs Q E hg hr e0 hb r h => ?_⟩⟩
    · obtain ⟨G, ws, M1, h1, h2, h3⟩ := callD_some h
      obtain ⟨d, hd, rfl, rfl⟩ := tabOf_some h1
      obtain ⟨p1, p2, p3⟩ := D.fix d hd hf
      have st := (D.ok d hd).star
      rw [p1] at st
      have st : d.fn.star = false := st
      unfold args at h2
      rw [st, if_neg (by decide)] at h2
      split at h2
      · rename_i hl
        rw [hl, p3, (D.ok d hd).np]
      · cases h2
    · obtain ⟨d, hd, rfl, h2⟩ := up h
      obtain ⟨fd, G⟩ := D.fn d hd
      exact def_any (D.ok d hd) T ih G A outer s H us vs Q E hg hr e0 r h2
    · obtain ⟨hl, h⟩ := h
      obtain ⟨d, hd, rfl, h2⟩ := up h
      obtain ⟨p1, p2, p3⟩ := D.fix d hd hf
      rw [p3] at hb
      exact (def_fix (D.ok d hd) T ih p2 p1).go A outer s H as us vs Q E hg hr e0 hb r (spC_fix (D.ok d hd) p1 h2)
end
end PyI

/-! PyI 12: the end of a law, by a promise that knows what is being shown around it. -/
namespace PyI
open PySem PySem.Spec PyProof.Rows L2
open Evl (Ex)
/-- the call of the law ends well -/
abbrev GoodEnd (old : Shared) (r : Result) (new : Shared) : Prop :=
  r = .ok (.ret (.bool true)) ∧ OldK old.heap new.heap ∧
    new.os = old.os ∧ AllBare new.gens
section
variable {P : Program} {w : World} {K : PySem.W.Frag} {mg mb : Str → Option Value} {CT : CXT} {k : Nat} {fa a : Addr} {fd : FuncData} {x : Str} {sp : Sp} {st : Shared} {vs : List Value} {ns : List Int}
theorem sq_not_dict {its : Array Value} {n : Nat} {es : Array DictEntry} {ep : Nat}
    (h : Data.seq its n = Data.dict es ep) : False := by cases h
theorem hid_keep {H : Hp} {L : List Value}
    (hs : st.heap.get? a = some { cls := .type "list", data := .seq L.toArray })
    (one : ∀ b, H b ≠ none → b = a) {b : Addr} {m : Str → Option Value}
    (h : st.heap.Ns b m) : (hidT st.heap H).Ns b m := by
  obtain ⟨o, es, ep, e, d, r⟩ := h
  refine ⟨o, es, ep, hidT_get e ?_, d, r⟩
  cases q : H b with
  | none => rfl
  | some u =>
    have e2 := one b (by rw [q]; simp)
    rw [e2, hs] at e
    cases e
    exact (sq_not_dict d).elim
/-- what the call leaves, once only the script may be tracked -/
theorem end_core
    (kin : K.In st.heap) (gl : st.heap.Ns mainGlobals mg) (bn : st.heap.Ns builtinsNs mb)
    (bb : ∀ y : Str, y ≠ "__name__" → mb y = bootBuiltins y)
    (lim : st.heap.NoLimit) (gn : st.gens = #[])
    (hs : st.heap.get? a = some { cls := .type "list", data := .seq vs.toArray })
    (room : Room k callerA)
    (F : ∀ base : Heap, K.In base → base.Ns mainGlobals mg →
      GoF P w K mg base CT k fa fd [x] sp)
    (bind : ∀ (s : Shared) (u : Value), BindsTo s fd ⟨[u], []⟩ [(x, u)])
    (quiet : ∀ H e s', CT [] H st (fun _ _ _ => False) e s' → False)
    (H : Hp) (only : Only H) (hok : HOk P w H st.heap)
    (one : ∀ b, H b ≠ none → b = a) (hid : H a ≠ none → K.lookup a = none)
    (want : sp [.ref a] H (fun v _ => v = .bl true) fun _ _ _ => False) :
    codeAny (model P w) callerA (.call (.ref fa) ⟨[.ref a], []⟩) (GoodEnd st) st := by
  have kb : K.In (hidT st.heap H) := by
    intro b o e
    refine hidT_get (kin b o e) ?_
    cases q : H b with
    | none => rfl
    | some u =>
      have e2 := one b (by rw [q]; simp)
      subst e2
      have e3 := hid (by rw [q]; simp)
      rw [e3] at e
      cases e
  have nb := hid_keep hs one gl
  obtain ⟨mc, lim1, lim2⟩ := lim
  have md : Mod K mg (hidT st.heap H) :=
    ⟨kb, nb, ⟨mb, hid_keep hs one bn, bb⟩,
      ⟨mc, hid_keep hs one lim1, lim2⟩⟩
  have none_in : ∀ b : Addr, b ∉ ([] : List Addr) := fun b z => by simp at z
  have e0 : Env0 P w K mg (hidT st.heap H) callerA [] st H := {
    frames := rfl
    mod := md
    bs := fun b o e => of_hidT e
    bsz := Nat.le_of_eq (hidT_size _ _)
    funs := trivial
    frf := fun b z => absurd z (none_in b)
    hok := hok
    bare := .of_eq gn }
  have run := (F _ kb nb).go callerA [] st H ⟨[.ref a], []⟩ [.ref a] [.ref a] _ _ rfl room e0
    (bind st (.ref a)) (.cons rfl .nil) want
  refine codeAny_mono run fun r s' z => ?_
  match r, z with
  | .error e, z => exact (quiet H e s' z).elim
  | .ok .next, z => exact z.elim
  | .ok .brk, z => exact z.elim
  | .ok .cont, z => exact z.elim
  | .ok (.ret u), z =>
    obtain ⟨v, H2, os, bare, un, ok2, rv, q⟩ := z
    have q : v = .bl true := q
    subst q
    have eu : u = Value.bool true := rv
    subst eu
    refine ⟨rfl, OldK.of_keep ?_, os, bare⟩
    intro b o e
    cases q : H b with
    | none => exact un.keep b o e q (fun z => absurd z (none_in b)) (none_in b)
    | some u =>
      rcases only b with z | ⟨ob, ys, z⟩
      · rw [q] at z
        cases z
      · have old := (hok b _ z).1
        have new := (ok2 b _ (un.frzs b ob _ z)).1
        rw [e] at old
        cases old
        exact new
/-- the call of the law, at the heap behind the top -/
theorem end_call
    (kin : K.In st.heap) (gl : st.heap.Ns mainGlobals mg) (bn : st.heap.Ns builtinsNs mb)
    (bb : ∀ y : Str, y ≠ "__name__" → mb y = bootBuiltins y)
    (lim : st.heap.NoLimit) (gn : st.gens = #[])
    (hs : st.heap.get? a = some { cls := .type "list", data := .seq vs.toArray })
    (its : IntsAre vs ns) (few : ns.length ≤ sizeLine) (room : Room k callerA)
    (F : ∀ base : Heap, K.In base → base.Ns mainGlobals mg →
      GoF P w K mg base CT k fa fd [x] sp)
    (bind : ∀ (s : Shared) (u : Value), BindsTo s fd ⟨[u], []⟩ [(x, u)])
    (want : ∀ H : Hp, Only H → SqL K H a (ns.map V.int) →
      sp [.ref a] H (fun v _ => v = .bl true) fun _ _ _ => False)
    (quiet : ∀ H e s', CT [] H st (fun _ _ _ => False) e s' → False) :
    codeAny (model P w) callerA (.call (.ref fa) ⟨[.ref a], []⟩) (GoodEnd st) st := by
  have rv := vals_ints its
  have core := end_core kin gl bn bb lim gn hs room F bind quiet
  cases hk : K.lookup a with
  | some o =>
    have e := kin a o hk
    rw [hs] at e
    cases e
    have on : Only fun _ => none := fun _ => .inl rfl
    have big : vs.toArray.size ≤ sizeLine := by
      rw [List.size_toArray, its.length]
      exact few
    refine core (fun _ => none) on (fun b u z => ?_) (fun b z => absurd rfl z) (fun z => absurd rfl z) ?_
    · have z : (none : Option HO) = some u := z
      cases z
    · exact want _ on (.inr ⟨_, vs.toArray, _, hk, rfl, rfl, rfl, big, by simpa using rv⟩)
  | none =>
    let fz : HO := .frz { cls := .type "list", data := .seq vs.toArray } (.lst (ns.map V.int))
    let H : Hp := fun b => if b = a then some fz else none
    have at_a : H a = some fz := if_pos rfl
    have off : ∀ b, b ≠ a → H b = none := fun b z => if_neg z
    have on : Only H := by
      intro b
      by_cases hb : b = a
      · subst hb
        exact .inr ⟨_, _, at_a⟩
      · exact .inl (off b hb)
    refine core H on ?_ ?_ (fun _ => hk) (want H on (.inl (.inr ⟨_, at_a⟩)))
    · intro b u z
      by_cases hb : b = a
      · subst hb
        rw [at_a] at z
        cases z
        exact ⟨hs, by rw [List.length_map]; exact few, vs, _, rv, hs⟩
      · rw [off b hb] at z
        cases z
    · intro b z
      by_cases hb : b = a
      · exact hb
      · exact absurd (off b hb) z
end
/-- the law's promise, of the written part alone -/
def spLaw (n : Nat) (K : PySem.W.Frag) : Sp := fun vs H Q _ => ∃ (a : Addr) (ns : List Int), vs = [.ref a] ∧ ns.length ≤ n ∧ SqL K H a (ns.map V.int) ∧ ∀ H', Q (.bl true) H'
theorem walk_up {l : PySem.W.OpenLaw} {n k : Nat} {q : Program} {loose : List Str} {XP : (Str → Option Value) → Heap → Prop} {YP : World → Heap → Prop} {d : DefRec} {K : Params → PySem.W.Frag} {x : Str} {C : Orc} {G : Fn}
    (hn : l.most = some n) (hn2 : n ≤ sizeLine) (hdf : d.params.defaults = []) (hr : Room k callerA) (hY : ∀ (w : World) (h : Heap), YP w h → (K w.params).In h)
    (F : ∀ (w : World) (mg : Str → Option Value) (fa : Addr) (h : Heap), (K w.params).In h → h.Ns mainGlobals mg → mg d.name = some (.ref fa) →
      ∃ fd : FuncData, (∀ (s : Shared) (u : Value), BindsTo s fd ⟨[u], []⟩ [(x, u)]) ∧ ∀ base : Heap, (K w.params).In base → base.Ns mainGlobals mg →
        ∃ S : Sta, S.K = K w.params ∧ GoF l.prog w (K w.params) mg base (L2.CX l.prog w) k fa fd [x] (fun vs H Q E => vs.length = 1 ∧ spB S C G vs H Q E))
    (hlaw : ∀ ns : List Int, ns.length ≤ n → endFn G.keep 0 (denSs C G.body (startE G.ns [.d (.frl (ns.map D.int))]) []) = some (.ok (.d (.bl true)) [])) :
    PySem.W.WalkO q loose XP YP l.row.toRowW d [] (fun f vs => PySem.call f vs) := by
  refine Att.attach_call hn hdf fun w s₀ s₁ mg mb fa o pm cd doc a vs ns GG Y ho hd hcd hmg hobj hints hlen hgn => ?_
  have KX := hY w _ Y
  obtain ⟨fd, hb, hF⟩ := F w mg fa _ KX GG.T.g hmg
  refine end_call (CT := L2.CX l.prog w) (sp := spLaw n (K w.params)) KX GG.T.g GG.T.b GG.T.builtins GG.T.nolimit hgn hobj hints (Nat.le_trans hlen hn2) hr (fun base p r => ?_) hb
    (fun H _ h3 => ⟨a, ns, rfl, hlen, h3, fun _ => rfl⟩) fun H e s' z => ?_
  · obtain ⟨S, hK, h3⟩ := hF base p r
    refine h3.imp fun vs H Q E hs => ?_
    obtain ⟨a, ns, rfl, hl, hS, hQ⟩ := hs
    rw [← hK] at hS
    have rl : ∀ ns : List Int, RepL S H (ns.map D.int) (ns.map V.int) := by
      intro ns
      induction ns with
      | nil => exact repL_emp
      | cons n ns ih => exact repL_mk (rep_int (S := S) (F := H)) ih
    refine ⟨rfl, fun _ => 0, H, _, [], _, ⟨Evl.Ex.refl H, fun n c e => by simp at e, fun n m h1 => by simp at h1⟩, repVs_1 (rep_frl hS (rl ns)), hlaw ns hl, fun μ' F' H' w a m r => ?_⟩
    rw [repD_bl (S := S) (F := F') r]
    exact hQ H'
  · obtain ⟨_, _, _, _, _, _, _, _, _, _, _, _, z⟩ := z
    exact z
/-- which except clause takes which error -/
theorem exm_is {K : PySem.W.Frag} {a b : Addr} {r : Bool} (h1 : PySem.W.subIn K (.ref b) (.type "BaseException") = some true) (h2 : PySem.W.isClsIn K b = true) (h3 : PySem.W.typeIn K (.ref b) = some (.type "type")) (h4 : PySem.W.subIn K (.ref a) (.ref b) = some r) :
    PySem.W.exmOne K (.ref a) (.ref b) = some r := by
  have e1 : (PySem.W.subIn K (.ref b) (.type "BaseException") == some true) = true := by rw [h1] <;> rfl
  have e2 : ((PySem.W.clsIn K b).isSome && PySem.W.typeIn K (.ref b) == some (.type "type")) = true := by
    rw [show (PySem.W.clsIn K b).isSome = true from h2, h3] <;> rfl
  unfold PySem.W.exmOne PySem.W.kitCls
  simp only [e1, e2, if_true]
  exact h4
end PyI

/-! PyI 13: words for running programs of the small language. -/
namespace PyI
open PySem
theorem call_eq {T : Tab} {f : Nat} {G : Fn} (h : T f = some G) (hs : G.star = false) (l : Nat) (vs : List Val) (M : Mem) (hn : vs.length = G.np) :
    callD T (l + 1) f vs M = endFn G.keep M.length (denSs (callD T l) G.body (startE G.ns vs) M) := by
  show (match T f with | none => none | some F => match args F vs M with | none => none | some (ws, M1) => endFn F.keep M.length (denSs (callD T l) F.body (startE F.ns ws) M1)) = _
  rw [h]
  show (match args G vs M with | none => none | some (ws, M1) => endFn G.keep M.length (denSs (callD T l) G.body (startE G.ns ws) M1)) = _
  have e : args G vs M = some (vs, M) := by
    unfold args
    rw [hs, if_neg (by decide), if_pos hn]
  rw [e]
theorem call_eqS {T : Tab} {f : Nat} {G : Fn} (h : T f = some G) (hs : G.star = true) (l : Nat) (vs : List D) (M : Mem) (hn : G.np ≤ vs.length) (hz : vs.length ≤ 10000) :
    callD T (l + 1) f (vs.map .d) M = endFn G.keep M.length (denSs (callD T l) G.body (startE G.ns ((vs.take G.np).map .d ++ [.d (.tup (vs.drop G.np))])) M) := by
  show (match T f with | none => none | some F => match args F (vs.map .d) M with | none => none | some (ws, M1) => endFn F.keep M.length (denSs (callD T l) F.body (startE F.ns ws) M1)) = _
  rw [h]
  show (match args G (vs.map .d) M with | none => none | some (ws, M1) => endFn G.keep M.length (denSs (callD T l) G.body (startE G.ns ws) M1)) = _
  have hh : ∀ xs : List D, holds M (xs.map .d) = some (xs, M) := by
    intro xs
    induction xs with
    | nil => rfl
    | cons x xs ih => rw [List.map_cons, holds_d, ih]; rfl
  have e : args G (vs.map .d) M = some ((vs.take G.np).map .d ++ [.d (.tup (vs.drop G.np))], M) := by
    unfold args
    rw [hs, if_pos rfl, if_pos (by rw [List.length_map]; exact hn), ← List.map_drop, hh]
    have hz2 : (vs.drop G.np).length ≤ sizeLine := Evl.sz_of (by rw [List.length_drop]; omega)
    simp only [hz2, if_true]
    rw [← List.map_take]
  rw [e]
/-- a loop whose body always goes on -/
theorem forL_inv {tg : Tg} {b : Env → Mem → Option Fl} (I : Env → Mem → Prop) : ∀ {xs : List D} {env : Env} {M : Mem},
    (∀ x ∈ xs, ∀ env M, I env M → ∃ env1 env2 M2, tg.bind x env = some env1 ∧ b env1 M = some (.nx env2 M2) ∧ I env2 M2) → I env M → ∃ env' M', forL tg b xs env M = some (.nx env' M') ∧ I env' M'
  | [], env, M, _, h => ⟨env, M, rfl, h⟩
  | x :: xs, env, M, hb, h => by
    obtain ⟨env1, env2, M2, e1, e2, h2⟩ := hb x List.mem_cons_self env M h
    obtain ⟨env3, M3, e3, h3⟩ := forL_inv I (xs := xs) (fun y hy => hb y (List.mem_cons_of_mem _ hy)) h2
    exact ⟨env3, M3, by simp only [forL, e1, e2, goOn_nx]; exact e3, h3⟩
/-- .. as a fold -/
theorem forL_fold {α : Type} {tg : Tg} {b : Env → Mem → Option Fl} (g : α → D → α) (E : α → Env) (M : Mem) : ∀ {xs : List D} {a : α},
    (∀ x ∈ xs, ∀ a, ∃ env1, tg.bind x (E a) = some env1 ∧ b env1 M = some (.nx (E (g a x)) M)) → forL tg b xs (E a) M = some (.nx (E (xs.foldl g a)) M)
  | [], a, _ => rfl
  | x :: xs, a, hb => by
    obtain ⟨env1, e1, e2⟩ := hb x List.mem_cons_self a
    simp only [forL, e1, e2, goOn_nx]
    exact forL_fold g E M (xs := xs) fun y hy => hb y (List.mem_cons_of_mem _ hy)
theorem forL_nil {tg : Tg} {b : Env → Mem → Option Fl} {env : Env} {M : Mem} : forL tg b [] env M = some (.nx env M) := rfl
theorem forL_cons {tg : Tg} {b : Env → Mem → Option Fl} {x : D} {xs : List D} {env env1 : Env} {M : Mem} (h : tg.bind x env = some env1) : forL tg b (x :: xs) env M = goOn (b env1 M) (forL tg b xs) := by
  simp only [forL, h]
/-- == of data of one sort is = -/
class Enc (α : Type) where
  enc : α → D
  pd : α → PyData
  toP : ∀ a, (enc a).toP = some (pd a)
  lay : ∀ a, (pd a).canLay0 = true
  dep : Nat
  depth : ∀ a, (pd a).depth ≤ dep
  eqv : ∀ a b, PyData.eqv (pd a) (pd b) = true ↔ a = b
theorem eqD_enc {α : Type} [E : Enc α] [DecidableEq α] (a b : α) (h : E.dep ≤ 64) : eqD (Enc.enc a) (Enc.enc b) = some (decide (a = b)) := by
  have sh : ∀ a : α, SeqAt.shaped (E.pd a) = true := fun a => by
    unfold SeqAt.shaped
    rw [E.lay a, Bool.true_and]
    exact decide_eq_true (Nat.le_trans (E.depth a) h)
  unfold eqD
  simp only [E.toP, sh, and_self, if_true]
  congr 1
  by_cases q : a = b
  · rw [decide_eq_true q]
    exact (E.eqv a b).mpr q
  · rw [decide_eq_false q]
    cases e : PyData.eqv (E.pd a) (E.pd b) with
    | false => rfl
    | true => exact absurd ((E.eqv a b).mp e) q
instance : Enc Int where
  enc := .int
  pd := .int
  toP := fun _ => by simp only [D.toP]
  lay := fun _ => by simp only [PyData.canLay0]
  dep := 0
  depth := fun _ => by simp only [PyData.depth]; omega
  eqv := fun a b => by simp only [PyData.eqv, beq_iff_eq]
instance : Enc Bool where
  enc := .bl
  pd := .bool
  toP := fun _ => by simp only [D.toP]
  lay := fun _ => by simp only [PyData.canLay0]
  dep := 0
  depth := fun _ => by simp only [PyData.depth]; omega
  eqv := fun a b => by simp only [PyData.eqv, beq_iff_eq]
theorem toPs_map {α : Type} [E : Enc α] (xs : List α) : toPs (xs.map E.enc) = some (xs.map E.pd) := by
  induction xs with
  | nil => simp only [List.map_nil, toPs]
  | cons x xs ih => simp only [List.map_cons, toPs, E.toP, ih]
theorem layAll_map {α : Type} [E : Enc α] (xs : List α) : PyData.canLayAll0 (xs.map E.pd) = true := by
  induction xs with
  | nil => simp only [List.map_nil, PyData.canLayAll0]
  | cons x xs ih => simp only [List.map_cons, PyData.canLayAll0, E.lay, ih, Bool.and_self]
theorem depAll_map {α : Type} [E : Enc α] (xs : List α) : PyData.depthAll (xs.map E.pd) ≤ E.dep := by
  induction xs with
  | nil => simp only [List.map_nil, PyData.depthAll]; omega
  | cons x xs ih =>
    simp only [List.map_cons, PyData.depthAll]
    have := E.depth x
    omega
theorem eqvAll_map {α : Type} [E : Enc α] : ∀ (xs ys : List α), PyData.eqvAll (xs.map E.pd) (ys.map E.pd) = true ↔ xs = ys
  | [], [] => by simp only [List.map_nil, PyData.eqvAll]
  | [], _ :: _ => by simp [PyData.eqvAll]
  | _ :: _, [] => by simp [PyData.eqvAll]
  | x :: xs, y :: ys => by
    simp only [List.map_cons, PyData.eqvAll, Bool.and_eq_true, E.eqv, eqvAll_map xs ys, List.cons.injEq]
instance {α : Type} [E : Enc α] : Enc (List α) where
  enc := fun xs => .lst (xs.map E.enc)
  pd := fun xs => .list (xs.map E.pd)
  toP := fun xs => by simp only [D.toP, toPs_map, Option.map_some]
  lay := fun xs => by simp only [PyData.canLay0, layAll_map]
  dep := E.dep + 1
  depth := fun xs => by
    simp only [PyData.depth]
    have := depAll_map (E := E) xs
    omega
  eqv := fun xs ys => by simp only [PyData.eqv, eqvAll_map, List.cons.injEq]
instance {α β : Type} [E : Enc α] [G : Enc β] : Enc (α × β) where
  enc := fun p => .tup [E.enc p.1, G.enc p.2]
  pd := fun p => .tuple [E.pd p.1, G.pd p.2]
  toP := fun p => by simp only [D.toP, toPs, E.toP, G.toP, Option.map_some]
  lay := fun p => by simp only [PyData.canLay0, PyData.canLayAll0, E.lay, G.lay, Bool.and_self]
  dep := max E.dep G.dep + 1
  depth := fun p => by
    simp only [PyData.depth, PyData.depthAll]
    have := E.depth p.1
    have := G.depth p.2
    omega
  eqv := fun p q => by simp only [PyData.eqv, PyData.eqvAll, Bool.and_eq_true, E.eqv, G.eqv, and_true, Prod.ext_iff]
@[simp] theorem eqD_int (a b : Int) : eqD (.int a) (.int b) = some (decide (a = b)) := eqD_enc (α := Int) a b (by decide)
@[simp] theorem eqD_bl (a b : Bool) : eqD (.bl a) (.bl b) = some (decide (a = b)) := eqD_enc (α := Bool) a b (by decide)
theorem eqD_ints (a b : List Int) : eqD (.lst (a.map .int)) (.lst (b.map .int)) = some (decide (a = b)) := eqD_enc (α := List Int) a b (by decide)
theorem eqD_bls (a b : List Bool) : eqD (.lst (a.map .bl)) (.lst (b.map .bl)) = some (decide (a = b)) := eqD_enc (α := List Bool) a b (by decide)
/-- the script -/
theorem eqD_frl (a b : List Int) : eqD (.frl (a.map .int)) (.lst (b.map .int)) = some (decide (a = b)) := eqD_enc (α := List Int) a b (by decide)
/-- Python's remainder -/
def pmod (i j : Int) : Int := if 0 < j then i % j else i.fmod j
theorem opD_mod (i j : Int) (h : j ≠ 0) : opD .mod [.int i, .int j] = some (.int (pmod i j)) := by
  show (if 0 < j then some (D.int (i % j)) else if j ≠ 0 then some (.int (i.fmod j)) else none) = _
  unfold pmod
  split
  · rfl
  · first | rfl | rw [if_pos h]
theorem pmod_lt (i j : Int) (h : j ≠ 0) : (pmod i j).natAbs < j.natAbs := by
  unfold pmod
  split
  · rename_i q
    have h1 := Int.emod_nonneg i h
    have h2 := Int.emod_lt_of_pos i q
    omega
  · rename_i q
    have hneg : j < 0 := by omega
    have e := Int.fmod_eq_emod (a := i) (b := j)
    have h1 := Int.emod_nonneg i h
    have h2 := Int.emod_lt_of_pos i (b := -j) (by omega)
    rw [Int.emod_neg] at h2
    rw [e]
    split
    · rename_i z
      rcases z with z | z
      · omega
      · have := Int.emod_eq_zero_of_dvd z
        omega
    · omega

/-! the operations, to be reckoned with -/
@[simp] theorem opD_add (i j : Int) : opD .add [.int i, .int j] = some (.int (i + j)) := rfl
@[simp] theorem opD_sub (i j : Int) : opD .sub [.int i, .int j] = some (.int (i - j)) := rfl
@[simp] theorem opD_neg (i : Int) : opD .neg [.int i] = some (.int (-i)) := rfl
@[simp] theorem opD_lt (i j : Int) : opD .lt [.int i, .int j] = some (.bl (decide (i < j))) := rfl
@[simp] theorem opD_le (i j : Int) : opD .le [.int i, .int j] = some (.bl (decide (i ≤ j))) := rfl
@[simp] theorem opD_gt (i j : Int) : opD .gt [.int i, .int j] = some (.bl (decide (j < i))) := rfl
@[simp] theorem opD_ge (i j : Int) : opD .ge [.int i, .int j] = some (.bl (decide (j ≤ i))) := rfl
@[simp] theorem opD_eq (x y : D) : opD .eq [x, y] = (eqD x y).map .bl := rfl
@[simp] theorem opD_ne (x y : D) : opD .ne [x, y] = (eqD x y).map fun b => .bl (!b) := rfl
@[simp] theorem opD_is (x y : D) : opD .is [x, y] = (isD x y).map .bl := rfl
@[simp] theorem opD_isnot (x y : D) : opD .isnot [x, y] = (isD x y).map fun b => .bl (!b) := rfl
@[simp] theorem opD_ixl (xs : List D) (i : Int) : opD .ix [.lst xs, .int i] = L2.atI xs i := rfl
@[simp] theorem opD_ixt (xs : List D) (i : Int) : opD .ix [.tup xs, .int i] = L2.atI xs i := rfl
@[simp] theorem opD_ixf (xs : List D) (i : Int) : opD .ix [.frl xs, .int i] = L2.atI xs i := rfl
@[simp] theorem opD_lenl (xs : List D) : opD .len [.lst xs] = some (.int xs.length) := rfl
@[simp] theorem opD_lent (xs : List D) : opD .len [.tup xs] = some (.int xs.length) := rfl
@[simp] theorem opD_lenf (xs : List D) : opD .len [.frl xs] = some (.int xs.length) := rfl
@[simp] theorem opD_abs (i : Int) : opD .abs [.int i] = some (.int (if i < 0 then -i else i)) := rfl
@[simp] theorem opD_max (i j : Int) : opD .max2 [.int i, .int j] = some (.int (if j > i then j else i)) := rfl
@[simp] theorem opD_min (i j : Int) : opD .min2 [.int i, .int j] = some (.int (if j < i then j else i)) := rfl
@[simp] theorem opD_inti (i : Int) : opD .int [.int i] = some (.int i) := rfl
@[simp] theorem opD_intb (b : Bool) : opD .int [.bl b] = some (.int (if b then 1 else 0)) := rfl
@[simp] theorem opD_isi (t : List Ty) (x : D) : opD (.isi t) [x] = (tyAny t x).map .bl := rfl
@[simp] theorem opD_emp : opD .emp [] = some .emp := rfl
theorem opD_tupS (xs : List D) (h : xs.length ≤ 1000) : opD .tup xs = some (.tup xs) := if_pos (Evl.sz_of (Nat.le_trans h (by decide)))
theorem opD_lstS (xs : List D) (h : xs.length ≤ 1000) : opD .lst xs = some (.lst xs) := if_pos (Evl.sz_of (Nat.le_trans h (by decide)))
@[simp] theorem opD_lst0 : opD .lst [] = some (.lst []) := opD_lstS _ (by decide)
@[simp] theorem opD_lst1 (a : D) : opD .lst [a] = some (.lst [a]) := opD_lstS _ (by simp)
@[simp] theorem opD_lst2 (a b : D) : opD .lst [a, b] = some (.lst [a, b]) := opD_lstS _ (by simp)
@[simp] theorem opD_lst3 (a b c : D) : opD .lst [a, b, c] = some (.lst [a, b, c]) := opD_lstS _ (by simp)
@[simp] theorem opD_lst4 (a b c d : D) : opD .lst [a, b, c, d] = some (.lst [a, b, c, d]) := opD_lstS _ (by simp)
@[simp] theorem opD_lst5 (a b c d e : D) : opD .lst [a, b, c, d, e] = some (.lst [a, b, c, d, e]) := opD_lstS _ (by simp)
@[simp] theorem opD_lst6 (a b c d e f : D) : opD .lst [a, b, c, d, e, f] = some (.lst [a, b, c, d, e, f]) := opD_lstS _ (by simp)
@[simp] theorem opD_lst7 (a b c d e f g : D) : opD .lst [a, b, c, d, e, f, g] = some (.lst [a, b, c, d, e, f, g]) := opD_lstS _ (by simp)
@[simp] theorem opD_tup1 (a : D) : opD .tup [a] = some (.tup [a]) := opD_tupS _ (by simp)
@[simp] theorem opD_tup2 (a b : D) : opD .tup [a, b] = some (.tup [a, b]) := opD_tupS _ (by simp)
@[simp] theorem opD_tup3 (a b c : D) : opD .tup [a, b, c] = some (.tup [a, b, c]) := opD_tupS _ (by simp)
@[simp] theorem opD_tup4 (a b c d : D) : opD .tup [a, b, c, d] = some (.tup [a, b, c, d]) := opD_tupS _ (by simp)
@[simp] theorem opD_tup6 (a b c d e f : D) : opD .tup [a, b, c, d, e, f] = some (.tup [a, b, c, d, e, f]) := opD_tupS _ (by simp)
/-- one factor small -/
theorem opD_mulS (i j : Int) (h : (-(2 ^ 64) < i ∧ i < 2 ^ 64) ∨ (-(2 ^ 64) < j ∧ j < 2 ^ 64)) : opD .mul [.int i, .int j] = some (.int (i * j)) := by
  refine if_pos ?_
  unfold mulOk
  simp only [Bool.or_eq_true, Bool.and_eq_true, decide_eq_true_eq]
  exact .inl h
theorem log2_small {i : Nat} {k : Nat} (h : i < 2 ^ k) (hk : 0 < k) : i.log2 < k := by
  by_cases z : i = 0
  · subst z; simpa using hk
  · exact (Nat.log2_lt z).mpr h
/-- both factors of some size -/
theorem opD_mulW (i j : Int) (hi : i.natAbs < 2 ^ 400000) (hj : j.natAbs < 2 ^ 400000) : opD .mul [.int i, .int j] = some (.int (i * j)) := by
  refine if_pos ?_
  unfold mulOk
  have h1 := log2_small hi (by decide)
  have h2 := log2_small hj (by decide)
  simp only [Bool.or_eq_true, Bool.and_eq_true, decide_eq_true_eq]
  exact .inr (by omega)
theorem opD_fdivS (i j : Int) (h : 0 < j) (hj : j.natAbs < 2 ^ 8000) : opD .fdiv [.int i, .int j] = some (.int (i / j)) := by
  refine if_pos ?_
  unfold divOk
  have h2 := log2_small hj (by decide)
  simp only [Bool.and_eq_true, decide_eq_true_eq]
  exact ⟨h, by omega⟩
theorem opD_modP (i j : Int) (h : 0 < j) : opD .mod [.int i, .int j] = some (.int (i % j)) := if_pos h
theorem opD_powS (i j : Int) (h : 0 ≤ j) (h2 : j ≤ 1000000) (h3 : i.natAbs < 2 ^ 64) : opD .pow [.int i, .int j] = some (.int (i ^ j.toNat)) := by
  refine if_pos ?_
  unfold powOk
  simp only [Bool.and_eq_true, decide_eq_true_eq]
  exact ⟨⟨h, h2⟩, h3⟩
@[simp] theorem runOp_d (o : Op) (xs : List D) (M : Mem) : runOp o (xs.map .d) M = (opD o xs).map fun x => .ok (.d x) M := by
  have h1 : ∀ xs : List D, holds M (xs.map .d) = some (xs, M) := by
    intro xs
    induction xs with
    | nil => rfl
    | cons x xs ih => rw [List.map_cons, holds_d, ih]; rfl
  have h2 : ∀ xs : List D, sees M (xs.map .d) = some xs := by
    intro xs
    induction xs with
    | nil => rfl
    | cons x xs ih => rw [List.map_cons, sees_d, ih]; rfl
  unfold runOp
  rw [h1, h2]
  cases o.keeps <;> rfl
@[simp] theorem runOp0 (o : Op) (M : Mem) : runOp o [] M = (opD o []).map fun x => .ok (.d x) M := runOp_d o [] M
@[simp] theorem runOp1 (o : Op) (x : D) (M : Mem) : runOp o [.d x] M = (opD o [x]).map fun x => .ok (.d x) M := runOp_d o [x] M
@[simp] theorem runOp2 (o : Op) (x y : D) (M : Mem) : runOp o [.d x, .d y] M = (opD o [x, y]).map fun x => .ok (.d x) M := runOp_d o [x, y] M
@[simp] theorem runOp3 (o : Op) (x y z : D) (M : Mem) : runOp o [.d x, .d y, .d z] M = (opD o [x, y, z]).map fun x => .ok (.d x) M := runOp_d o [x, y, z] M
@[simp] theorem runOp4 (o : Op) (x y z u : D) (M : Mem) : runOp o [.d x, .d y, .d z, .d u] M = (opD o [x, y, z, u]).map fun x => .ok (.d x) M := runOp_d o [x, y, z, u] M
@[simp] theorem runOp5 (o : Op) (x y z u v : D) (M : Mem) : runOp o [.d x, .d y, .d z, .d u, .d v] M = (opD o [x, y, z, u, v]).map fun x => .ok (.d x) M := runOp_d o [x, y, z, u, v] M
/-- an element of a written list -/
theorem runOp_ixr {n : Nat} {M : Mem} {xs : List D} (i : Int) (h : M[n]? = some (.lst xs)) : runOp .ix [.rf n, .d (.int i)] M = (L2.atI xs i).map fun x => .ok (.d x) M := by
  unfold runOp
  rw [if_neg (by decide)]
  have e : sees M [.rf n, .d (.int i)] = some [.lst xs, .int i] := by
    have e1 : Val.see M (.rf n) = some (.lst xs) := by
      show (match M[n]? with | some (.lst xs) => some (D.lst xs) | some (.frz xs) => some (.lst xs) | some (.tup xs) => some (.tup xs) | _ => none) = _
      rw [h]
    show (match Val.see M (.rf n), sees M [.d (.int i)] with | some x, some xs => some (x :: xs) | _, _ => none) = _
    rw [e1]
    rfl
  rw [e]
  rfl
theorem atI_0 {α : Type} (a : α) (xs : List α) : L2.atI (a :: xs) 0 = some a := L2.atI_nat (j := 0) rfl
theorem atI_1 {α : Type} (a b : α) (xs : List α) : L2.atI (a :: b :: xs) 1 = some b := L2.atI_nat (j := 1) rfl
theorem atI_some {α : Type} (xs : List α) (i : Int) (h0 : 0 ≤ i) (h1 : i < xs.length) : ∃ a, a ∈ xs ∧ L2.atI xs i = some a := by
  have hl : i.toNat < xs.length := by omega
  refine ⟨xs[i.toNat], List.getElem_mem hl, ?_⟩
  have e := L2.atI_nat (xs := xs) (j := i.toNat) (List.getElem?_eq_getElem hl)
  rwa [Int.toNat_of_nonneg h0] at e

/-! what each form means, one row each (all arguments there) -/
section
variable (C : Orc) (env : Env) (M : Mem)
@[simp] theorem eE_cst (x : D) : denE C (.cst x) env M = some (.ok (.d x) M) := by first | rfl | simp only [denE]
@[simp] theorem eE_var (i : Nat) : denE C (.var i) env M = match env[i]? with | some (some v) => some (.ok v M) | _ => none := by first | rfl | simp only [denE]
@[simp] theorem eE_op (o : Op) (es : IEs) : denE C (.op o es) env M = bnd (denEs C es env M) (runOp o) := by first | rfl | simp only [denE]
@[simp] theorem eE_mk (o : Op) (es : IEs) : denE C (.mk o es) env M = bnd (denEs C es env M) (runMk o) := by first | rfl | simp only [denE]
@[simp] theorem eE_call (f : Nat) (es : IEs) : denE C (.call f es) env M = bnd (denEs C es env M) (C f) := by first | rfl | simp only [denE]
@[simp] theorem eE_not (a : IE) : denE C (.not a) env M = bnd (denE C a env M) fun v M1 => match asB v with | some c => some (.ok (.d (.bl (!c))) M1) | none => none := by first | rfl | simp only [denE]
@[simp] theorem eE_and (a b : IE) : denE C (.and a b) env M = bnd (denB C a env M) fun c M1 => if c = true then bnd (denB C b env M1) (fun c M2 => some (.ok (.d (.bl c)) M2)) else some (.ok (.d (.bl false)) M1) := by
  unfold denB
  rw [denE]
  cases denE C a env M with
  | none => rfl
  | some r =>
    cases r with
    | ex x M1 => rfl
    | ok v M1 =>
      simp only [bnd_ok]
      cases asB v with
      | none => rfl
      | some c =>
        cases c with
        | false => rfl
        | true =>
          simp only [bnd_ok, if_true]
          cases denE C b env M1 with
          | none => rfl
          | some r2 =>
            cases r2 with
            | ex x M2 => rfl
            | ok w M2 =>
              simp only [bnd_ok]
              cases asB w <;> rfl
@[simp] theorem eE_or (a b : IE) : denE C (.or a b) env M = bnd (denB C a env M) fun c M1 => if c = true then some (.ok (.d (.bl true)) M1) else bnd (denB C b env M1) (fun c M2 => some (.ok (.d (.bl c)) M2)) := by
  unfold denB
  rw [denE]
  cases denE C a env M with
  | none => rfl
  | some r =>
    cases r with
    | ex x M1 => rfl
    | ok v M1 =>
      simp only [bnd_ok]
      cases asB v with
      | none => rfl
      | some c =>
        cases c with
        | true => rfl
        | false =>
          simp only [bnd_ok, Bool.false_eq_true, if_false]
          cases denE C b env M1 with
          | none => rfl
          | some r2 =>
            cases r2 with
            | ex x M2 => rfl
            | ok w M2 =>
              simp only [bnd_ok]
              cases asB w <;> rfl
@[simp] theorem eE_ife (c a b : IE) : denE C (.ife c a b) env M = bnd (denB C c env M) fun t M1 => if t = true then denE C a env M1 else denE C b env M1 := denE_ife
@[simp] theorem eEs_nil : denEs C .nil env M = some (.ok [] M) := by first | rfl | simp only [denEs]
@[simp] theorem eEs_cons (e : IE) (es : IEs) : denEs C (.cons e es) env M = bnd (denE C e env M) fun v M1 => bnd (denEs C es env M1) fun vs M2 => some (.ok (v :: vs) M2) := by first | rfl | simp only [denEs]
@[simp] theorem eT_nil : denT C .nil env M = some (.ok true M) := by first | rfl | simp only [denT]
@[simp] theorem eT_one (e : IE) : denT C (.cons e .nil) env M = denB C e env M := by first | rfl | simp only [denT]
@[simp] theorem eI_seq (e : IE) : denI C (.seq e) env M = bnd (denE C e env M) runSeq := by first | rfl | simp only [denI]
@[simp] theorem eI_range (es : IEs) : denI C (.range es) env M = bnd (denEs C es env M) runRange := by first | rfl | simp only [denI]
/-- tests -/
@[simp] theorem eB_not (a : IE) : denB C (.not a) env M = bnd (denB C a env M) fun b M1 => some (.ok (!b) M1) := denB_not
@[simp] theorem eB_and (a b : IE) : denB C (.and a b) env M = bnd (denB C a env M) fun c M1 => if c = true then denB C b env M1 else some (.ok false M1) := denB_and
@[simp] theorem eB_or (a b : IE) : denB C (.or a b) env M = bnd (denB C a env M) fun c M1 => if c = true then some (.ok true M1) else denB C b env M1 := denB_or
def toB (v : Val) (M : Mem) : Option (R Bool) := match asB v with | some b => some (.ok b M) | none => none
@[simp] theorem toB_bl (b : Bool) : toB (.d (.bl b)) M = some (.ok b M) := rfl
@[simp] theorem eB_op (o : Op) (es : IEs) : denB C (.op o es) env M = bnd (denE C (.op o es) env M) toB := rfl
@[simp] theorem eB_call (f : Nat) (es : IEs) : denB C (.call f es) env M = bnd (denE C (.call f es) env M) toB := rfl
@[simp] theorem eB_var (i : Nat) : denB C (.var i) env M = bnd (denE C (.var i) env M) toB := rfl
@[simp] theorem eB_cst (x : D) : denB C (.cst x) env M = bnd (denE C (.cst x) env M) toB := rfl
@[simp] theorem eB_ife (c a b : IE) : denB C (.ife c a b) env M = bnd (denE C (.ife c a b) env M) toB := rfl
/-- statements -/
@[simp] theorem eS_set (i : Nat) (e : IE) : denS C (.set (.nm i) e) env M = bndS (denE C e env M) env fun v M1 => some (.nx (env.set i (some v)) M1) := by first | rfl | simp only [denS]
@[simp] theorem eS_setT (ts : List Tg) (e : IE) : denS C (.set (.tp ts) e) env M = bndS (denE C e env M) env fun v M1 => match v.see M1 with
    | some x => match (Tg.tp ts).bind x env with
      | some env1 => some (.nx env1 M1)
      | none => none
    | none => none := by first | rfl | simp only [denS]
@[simp] theorem eS_par (is : List Nat) (es : IEs) : denS C (.par is es) env M = bndS (denEs C es env M) env fun vs M1 => match parSet is vs env with
    | some env1 => some (.nx env1 M1)
    | none => none := by first | rfl | simp only [denS]
@[simp] theorem eS_setix (o i e : IE) : denS C (.setix o i e) env M = bndS (denE C e env M) env fun v M1 => bndS (denE C o env M1) env fun ov M2 => bndS (denE C i env M2) env fun iv M3 => match setAt ov iv v M3 with
    | some M4 => some (.nx env M4)
    | none => none := by first | rfl | simp only [denS]
@[simp] theorem eS_drop (e : IE) : denS C (.drop e) env M = bndS (denE C e env M) env fun _ M1 => some (.nx env M1) := by first | rfl | simp only [denS]
@[simp] theorem eS_ret (e : IE) : denS C (.ret e) env M = bndS (denE C e env M) env fun v M1 => some (.rt v M1) := by first | rfl | simp only [denS]
@[simp] theorem eS_retN : denS C .retN env M = some (.rt (.d .non) M) := by first | rfl | simp only [denS]
@[simp] theorem eS_pass : denS C .pass env M = some (.nx env M) := by first | rfl | simp only [denS]
@[simp] theorem eS_brk : denS C .brk env M = some (.bk env M) := by first | rfl | simp only [denS]
@[simp] theorem eS_cont : denS C .cont env M = some (.ct env M) := by first | rfl | simp only [denS]
@[simp] theorem eS_ife (c : IE) (a b : ISs) : denS C (.ife c a b) env M = bndS (denB C c env M) env fun t M1 => if t = true then denSs C a env M1 else denSs C b env M1 := by first | rfl | simp only [denS]
@[simp] theorem eS_whl (c : IE) (b : ISs) : denS C (.whl c b) env M = whl (denB C c) (denSs C b) env M := by first | rfl | simp only [denS]
@[simp] theorem eS_for (tg : Tg) (it : II) (b : ISs) : denS C (.for tg it b) env M = bndS (denI C it env M) env fun xs M1 => forL tg (denSs C b) xs env M1 := by first | rfl | simp only [denS]
@[simp] theorem eS_raise (c : Nat) : denS C (.raise c .nil) env M = some (.ex ⟨c, []⟩ env M) := by simp only [denS, denEs, bndS_ok, holds_nil]
@[simp] theorem eS_tryn (b : ISs) (hs : IHs) : denS C (.tryn b hs) env M = match denSs C b env M with
    | some (.ex x env1 M1) => denH C hs x env1 M1
    | r => r := by first | rfl | simp only [denS]
@[simp] theorem eSs_nil : denSs C .nil env M = some (.nx env M) := by first | rfl | simp only [denSs]
@[simp] theorem eSs_cons (s : IS) (ss : ISs) : denSs C (.cons s ss) env M = seqF (denS C s env M) (denSs C ss) := by first | rfl | simp only [denSs]
@[simp] theorem eF_nx (keep : Bool) (k : Nat) : endFn keep k (some (.nx env M)) = some (.ok (.d .non) (M.take k)) := rfl
@[simp] theorem eF_rtd (keep : Bool) (k : Nat) (x : D) : endFn keep k (some (.rt (.d x) M)) = some (.ok (.d x) (M.take k)) := rfl
@[simp] theorem eF_ex (keep : Bool) (k : Nat) (x : Xn) : endFn keep k (some (.ex x env M)) = some (.ex x (M.take k)) := rfl
@[simp] theorem rS_l (xs : List D) : runSeq (.d (.lst xs)) M = some (.ok xs M) := rfl
@[simp] theorem rS_t (xs : List D) : runSeq (.d (.tup xs)) M = some (.ok xs M) := rfl
@[simp] theorem rS_f (xs : List D) : runSeq (.d (.frl xs)) M = some (.ok xs M) := rfl
theorem rR_1 (j : Int) (h : 0 ≤ j) (h2 : j < 2 ^ 62) : runRange [.d (.int j)] M = some (.ok (rngL 0 j) M) := if_pos (by
  unfold rngOk
  simp only [Bool.and_eq_true, decide_eq_true_eq]
  omega)
@[simp] theorem tgN (i : Nat) (x : D) : Tg.bind (.nm i) x env = some (env.set i (some (.d x))) := by simp only [Tg.bind]
@[simp] theorem tgT (ts : List Tg) (xs : List D) : Tg.bind (.tp ts) (.tup xs) env = bindL ts xs env := by simp only [Tg.bind]
@[simp] theorem tgL (ts : List Tg) (xs : List D) : Tg.bind (.tp ts) (.lst xs) env = bindL ts xs env := by simp only [Tg.bind]
@[simp] theorem tgs0 : PyI.bindL [] [] env = some env := by simp only [PyI.bindL]
@[simp] theorem tgsC (t : Tg) (ts : List Tg) (x : D) (xs : List D) : PyI.bindL (t :: ts) (x :: xs) env = match t.bind x env with | some env1 => PyI.bindL ts xs env1 | none => none := by
  first
    | (simp only [PyI.bindL]; done)
    | (simp only [PyI.bindL]; cases t.bind x env <;> rfl)
end
end PyI

/-! PyI 14: what nearly every law needs: drawing cells, comprehensions, bounds by bits, Euclid -/
namespace PyI
open PySem
/-- of so many bits -/
def Sm (k : Nat) (i : Int) : Prop := i.natAbs < 2 ^ k
theorem Sm.le {k l : Nat} {i : Int} (h : Sm k i) (hl : k ≤ l) : Sm l i := Nat.lt_of_lt_of_le h (Nat.pow_le_pow_right (by decide) hl)
theorem Sm.mul {k l : Nat} {i j : Int} (h : Sm k i) (h2 : Sm l j) : Sm (k + l) (i * j) := by
  unfold Sm at *
  rw [Int.natAbs_mul, Nat.pow_add]
  have p : 0 < 2 ^ l := Nat.pow_pos (by decide)
  exact Nat.mul_lt_mul_of_lt_of_le h (Nat.le_of_lt h2) p
theorem Sm.div {k : Nat} {i : Int} (h : Sm k i) (m : Int) : Sm k (i / m) := Nat.lt_of_le_of_lt (Int.natAbs_ediv_le_natAbs i m) h
theorem Sm.mod {k : Nat} {m : Int} (h : Sm k m) (i : Int) (hm : 0 < m) : Sm k (i % m) := by
  have h1 := Int.emod_nonneg i (by omega : m ≠ 0)
  have h2 := Int.emod_lt_of_pos i hm
  unfold Sm at *
  omega
theorem Sm.add {k : Nat} {i j : Int} (h : Sm k i) (h2 : Sm k j) : Sm (k + 1) (i + j) := by
  unfold Sm at *
  rw [Nat.pow_succ]
  omega
theorem Sm.pred {k : Nat} {i : Int} (h : Sm k i) (h0 : 0 ≤ i) : Sm (k + 1) (i - 1) := by
  unfold Sm at *
  rw [Nat.pow_succ]
  omega
theorem opD_mulB {k l : Nat} {i j : Int} (hi : Sm k i) (hj : Sm l j) (hk : k ≤ 400000) (hl : l ≤ 400000) : opD .mul [.int i, .int j] = some (.int (i * j)) := opD_mulW i j (hi.le hk) (hj.le hl)
theorem divOk_of {k : Nat} {m : Int} (h : 0 < m) (hm : Sm k m) (hk : k ≤ 8000) : divOk m = true := by
  unfold divOk
  have h2 := log2_small (hm.le hk) (by decide)
  simp only [Bool.and_eq_true, decide_eq_true_eq]
  exact ⟨h, by omega⟩
theorem fdivO (i j : Int) (h : divOk j = true) : opD .fdiv [.int i, .int j] = some (.int (i / j)) := if_pos h
/-- a drawing cell -/
def dm (M : Mem) (n : Nat) (c s : Int) : Mem := M.set n (.lst [.int c, .int s])
theorem dm_get {M : Mem} {n : Nat} (h : n < M.length) (c s : Int) : (dm M n c s)[n]? = some (.lst [.int c, .int s]) := by
  unfold dm
  rw [List.getElem?_set_self h]
theorem dm_len (M : Mem) (n : Nat) (c s : Int) : (dm M n c s).length = M.length := List.length_set
theorem dm_take (M : Mem) (n : Nat) (c s : Int) : (dm M n c s).take M.length = dm M n c s := List.take_of_length_le (Nat.le_of_eq (dm_len M n c s))
theorem dm_take2 (M : Mem) (n : Nat) (c s c2 s2 : Int) : (dm M n c s).take (dm M n c2 s2).length = dm M n c s := by rw [dm_len, dm_take]
theorem dm_ix0 {M : Mem} {n : Nat} (h : n < M.length) (c s : Int) : runOp .ix [.rf n, .d (.int 0)] (dm M n c s) = some (.ok (.d (.int c)) (dm M n c s)) := by
  rw [runOp_ixr 0 (dm_get h c s)]
  rfl
theorem dm_ix1 {M : Mem} {n : Nat} (h : n < M.length) (c s : Int) : runOp .ix [.rf n, .d (.int 1)] (dm M n c s) = some (.ok (.d (.int s)) (dm M n c s)) := by
  rw [runOp_ixr 1 (dm_get h c s)]
  rfl
theorem dm_set0 {M : Mem} {n : Nat} (h : n < M.length) (c s c2 : Int) : setAt (.rf n) (.d (.int 0)) (.d (.int c2)) (dm M n c s) = some (dm M n c2 s) := by
  unfold setAt
  simp only [hold_d, dm_get h]
  show some ((dm M n c s).set n _) = _
  unfold dm
  rw [List.set_set]
  rfl
theorem dm_set1 {M : Mem} {n : Nat} (h : n < M.length) (c s s2 : Int) : setAt (.rf n) (.d (.int 1)) (.d (.int s2)) (dm M n c s) = some (dm M n c s2) := by
  unfold setAt
  simp only [hold_d, dm_get h]
  show some ((dm M n c s).set n _) = _
  unfold dm
  rw [List.set_set]
  rfl
theorem dm_end (M : Mem) (c s : Int) : M ++ [.lst [.int c, .int s]] = dm (M ++ [.gone]) M.length c s := by
  unfold dm
  simp
theorem stp {C : Orc} {s : IS} {ss : ISs} {env env1 : Env} {M M1 : Mem} (h : denS C s env M = some (.nx env1 M1)) : denSs C (.cons s ss) env M = denSs C ss env1 M1 := by
  rw [eSs_cons, h, seqF_nx]
def hdS : ISs → IS
  | .cons s _ => s
  | .nil => .pass
def tlS : ISs → ISs
  | .cons _ ss => ss
  | .nil => .nil
theorem pow9 : opD .pow [.int 10, .int 9] = some (.int 1000000000) := by
  rw [opD_powS _ _ (by decide) (by decide) (by decide)]
  rfl
theorem pow5 : opD .pow [.int 10, .int 5] = some (.int 100000) := by
  rw [opD_powS _ _ (by decide) (by decide) (by decide)]
  rfl
theorem pow15 : opD .pow [.int 10, .int 15] = some (.int 1000000000000000) := by
  rw [opD_powS _ _ (by decide) (by decide) (by decide)]
  rfl
theorem pow18 : opD .pow [.int 10, .int 18] = some (.int 1000000000000000000) := by
  rw [opD_powS _ _ (by decide) (by decide) (by decide)]
  rfl
theorem pow24 : opD .pow [.int 10, .int 24] = some (.int 1000000000000000000000000) := by
  rw [opD_powS _ _ (by decide) (by decide) (by decide)]
  rfl
/-- a comprehension, kept shut -/
noncomputable def runLc (C : Orc) (tg : Tg) (own : List Nat) (cs : IEs) (e : IE) (env : Env) (xs : List D) (M : Mem) : Option (R (List D)) := lcL tg (wipeE env own) (denT C cs) (fun env M => bnd (denE C e env M) runHold) xs [] M
@[simp] theorem eE_lc (C : Orc) (env : Env) (M : Mem) (tg : Tg) (own : List Nat) (it : II) (cs : IEs) (e : IE) : denE C (.lc tg own it cs e) env M = bnd (denI C it env M) fun xs M1 =>
      bnd (runLc C tg own cs e env xs M1) fun ys M2 => some (.ok (.d (.lst ys)) M2) := by first | rfl | (rw [denE]; rfl) | simp only [denE, runLc]
theorem lcL_inv {tg : Tg} {env : Env} {c : Env → Mem → Option (R Bool)} {e : Env → Mem → Option (R D)} (I : Mem → Prop) (P : D → Prop) : ∀ {xs acc : List D} {M : Mem},
    (∀ x ∈ xs, ∀ M, I M → ∃ env1 M1 y M2, tg.bind x env = some env1 ∧ c env1 M = some (.ok true M1) ∧ e env1 M1 = some (.ok y M2) ∧ P y ∧ I M2) → I M → acc.length + xs.length ≤ 1000000 →
    ∃ ys M', lcL tg env c e xs acc M = some (.ok (acc ++ ys) M') ∧ I M' ∧ ys.length = xs.length ∧ ∀ y ∈ ys, P y
  | [], acc, M, _, h, _ => ⟨[], M, by rw [List.append_nil]; rfl, h, rfl, by simp⟩
  | x :: xs, acc, M, hb, h, hl => by
    rw [List.length_cons] at hl
    obtain ⟨env1, M1, y, M2, e1, e2, e3, py, h2⟩ := hb x List.mem_cons_self M h
    obtain ⟨ys, M3, e4, h3, l3, p3⟩ := lcL_inv I P (xs := xs) (acc := acc ++ [y]) (fun z hz => hb z (List.mem_cons_of_mem _ hz)) h2 (by simp; omega)
    have hz : acc.length < sizeLine := by
      have : sizeLine = 16777216 := by decide
      omega
    refine ⟨y :: ys, M3, ?_, h3, by simp [l3], ?_⟩
    · simp only [lcL, e1, e2, e3, hz, if_true]
      rw [e4, List.append_assoc]
      rfl
    · intro z hz
      rcases List.mem_cons.mp hz with rfl | hz
      · exact py
      · exact p3 z hz
theorem lcL_map {tg : Tg} {env : Env} {c : Env → Mem → Option (R Bool)} {e : Env → Mem → Option (R D)} (g : D → D) (M : Mem) : ∀ {xs acc : List D},
    (∀ x ∈ xs, ∃ env1, tg.bind x env = some env1 ∧ c env1 M = some (.ok true M) ∧ e env1 M = some (.ok (g x) M)) → acc.length + xs.length ≤ 1000000 →
    lcL tg env c e xs acc M = some (.ok (acc ++ xs.map g) M)
  | [], acc, _, _ => by rw [List.map_nil, List.append_nil]; rfl
  | x :: xs, acc, hb, hl => by
    rw [List.length_cons] at hl
    obtain ⟨env1, e1, e2, e3⟩ := hb x List.mem_cons_self
    have e4 := lcL_map g M (xs := xs) (acc := acc ++ [g x]) (fun z hz => hb z (List.mem_cons_of_mem _ hz)) (by simp; omega)
    have hz : acc.length < sizeLine := by
      have : sizeLine = 16777216 := by decide
      omega
    simp only [lcL, e1, e2, e3, hz, if_true]
    rw [e4, List.append_assoc]
    rfl
theorem runLc_inv {C : Orc} {tg : Tg} {own : List Nat} {e : IE} {env : Env} (I : Mem → Prop) (P : D → Prop) {xs : List D} {M : Mem}
    (hb : ∀ x ∈ xs, ∀ M, I M → ∃ env1 y M2, tg.bind x (wipeE env own) = some env1 ∧ denE C e env1 M = some (.ok (.d y) M2) ∧ P y ∧ I M2) (h : I M) (hl : xs.length ≤ 1000000) :
    ∃ ys M', runLc C tg own .nil e env xs M = some (.ok ys M') ∧ I M' ∧ ys.length = xs.length ∧ ∀ y ∈ ys, P y := by
  obtain ⟨ys, M', e1, h1⟩ := lcL_inv (tg := tg) (env := wipeE env own) (c := denT C .nil) (e := fun env M => bnd (denE C e env M) runHold) I P (xs := xs) (acc := []) (M := M) (fun x hx M h => by
    obtain ⟨env1, y, M2, e1, e2, py, h2⟩ := hb x hx M h
    exact ⟨env1, M, y, M2, e1, eT_nil _ _ _, by rw [e2]; rfl, py, h2⟩) h (by simpa using hl)
  exact ⟨ys, M', by rw [List.nil_append] at e1; exact e1, h1⟩
theorem runLc_map {C : Orc} {tg : Tg} {own : List Nat} {e : IE} {env : Env} (g : D → D) (M : Mem) {xs : List D}
    (hb : ∀ x ∈ xs, ∃ env1, tg.bind x (wipeE env own) = some env1 ∧ denE C e env1 M = some (.ok (.d (g x)) M)) (hl : xs.length ≤ 1000000) :
    runLc C tg own .nil e env xs M = some (.ok (xs.map g) M) := by
  have e1 := lcL_map (tg := tg) (env := wipeE env own) (c := denT C .nil) (e := fun env M => bnd (denE C e env M) runHold) g M (xs := xs) (acc := []) (fun x hx => by
    obtain ⟨env1, e1, e2⟩ := hb x hx
    exact ⟨env1, e1, eT_nil _ _ _, by rw [e2]; rfl⟩) (by simpa using hl)
  rw [List.nil_append] at e1
  exact e1
theorem ints_of {ys : List D} (h : ∀ y ∈ ys, ∃ i : Int, y = .int i) : ∃ is : List Int, ys = is.map .int := by
  induction ys with
  | nil => exact ⟨[], rfl⟩
  | cons y ys ih =>
    obtain ⟨is, rfl⟩ := ih fun z hz => h z (List.mem_cons_of_mem _ hz)
    obtain ⟨i, rfl⟩ := h y List.mem_cons_self
    exact ⟨i :: is, rfl⟩
theorem rep_flat {α : Type} (x : α) (n : Nat) : (List.replicate n [x]).flatten = List.replicate n x := by
  induction n with
  | zero => rfl
  | succ n ih => rw [List.replicate_succ, List.flatten_cons, ih, List.replicate_succ]; rfl
theorem opD_rep (x : D) (n : Nat) (h : n ≤ 1000000) : opD .mul [.lst [x], .int n] = some (.lst (List.replicate n x)) := by
  simp only [opD]
  have sz : sizeLine = 16777216 := PySem.sizeLine_eq
  have c : -(2 ^ 63) ≤ (n : Int) ∧ (n : Int) < 2 ^ 63 ∧ [x].length * (n : Int).toNat ≤ sizeLine := by
    refine ⟨by omega, by omega, ?_⟩
    rw [sz, List.length_singleton]
    omega
  rw [if_pos c, Int.toNat_natCast, rep_flat]
theorem rngL_mem {j : Int} {x : D} (h : x ∈ rngL 0 j) : ∃ k : Nat, x = .int k ∧ (k : Int) < j := by
  unfold rngL at h
  obtain ⟨k, hk, rfl⟩ := List.mem_map.mp h
  rw [List.mem_range] at hk
  exact ⟨k, by simp, by omega⟩
theorem intsOf_map : ∀ is : List Int, intsOf (is.map .int) = some is
  | [] => rfl
  | i :: is => by
    show (intsOf (is.map .int)).map (i :: ·) = _
    rw [intsOf_map is]
    rfl
theorem opD_sum (is : List Int) : opD .sum [.lst (is.map .int)] = some (.int is.sum) := by
  show (match intsOf (is.map .int) with
    | some ns => some (D.int ns.sum)
    | none => (blsOf (is.map .int)).map fun bs : List Bool => D.int (bs.map b01).sum) = _
  rw [intsOf_map]
theorem blsOf_map : ∀ bs : List Bool, blsOf (bs.map .bl) = some bs
  | [] => rfl
  | b :: bs => by
    show (blsOf (bs.map .bl)).map (b :: ·) = _
    rw [blsOf_map bs]
    rfl
theorem opD_sumB (bs : List Bool) (h : bs ≠ []) : opD .sum [.lst (bs.map .bl)] = some (.int (bs.map b01).sum) := by
  show (match intsOf (bs.map .bl) with
    | some ns => some (D.int ns.sum)
    | none => (blsOf (bs.map .bl)).map fun bs : List Bool => D.int (bs.map b01).sum) = _
  cases bs with
  | nil => exact absurd rfl h
  | cons b bs =>
    rw [blsOf_map]
    rfl
def bodyOf : IS → ISs
  | .for _ _ b => b
  | .whl _ b => b
  | _ => .nil
def condOf : IS → IE
  | .whl c _ => c
  | .ife c _ _ => c
  | _ => .cst .non
def isI : D → Bool
  | .int _ => true
  | _ => false
theorem runMk_d (o : Op) (xs ys : List D) (M : Mem) (h : opD o xs = some (.lst ys)) : runMk o (xs.map .d) M = some (.ok (.rf M.length) (M ++ [.lst ys])) := by
  have h1 : ∀ xs : List D, holds M (xs.map .d) = some (xs, M) := by
    intro xs
    induction xs with
    | nil => rfl
    | cons x xs ih => rw [List.map_cons, holds_d, ih]; rfl
  unfold runMk
  rw [h1]
  simp only [h]
theorem runMk2 (a b : D) (M : Mem) : runMk .lst [.d a, .d b] M = some (.ok (.rf M.length) (M ++ [.lst [a, b]])) := runMk_d .lst [a, b] _ M (opD_lst2 a b)
theorem endK (k : Nat) (M : Mem) (xs : List D) (hk : k = M.length) : endFn true k (some (.rt (.rf M.length) (M ++ [.lst xs]))) = some (.ok (.rf M.length) (M ++ [.lst xs])) := by
  subst hk
  simp [endFn, endRet]
theorem eqD_frl_lst0 (xs : List Int) : eqD (.frl (xs.map D.int)) (.lst []) = some (decide (xs = [])) := by
  have := eqD_frl xs []
  simpa using this
theorem f0 : eqD (.frl []) (.lst []) = some true := eqD_frl_lst0 []
/-- the cell of a drawing, and what stands below it -/
def Dr (M0 : Mem) (n : Nat) (M : Mem) : Prop := ∃ c s : Int, 0 ≤ c ∧ 0 ≤ s ∧ M = dm M0 n c s
def bDraws : ISs := (.cons (.set (.nm 2) (.cst (.int (0)))) (.cons (.ife (.op .ne (.cons (.var 0) (.cons (.op .lst .nil) .nil))) (.cons (.set (.nm 2) (.op .ix (.cons (.var 0) (.cons (.op .mod (.cons (.var 1) (.cons (.op .len (.cons (.var 0) .nil)) .nil))) .nil)))) .nil) .nil) (.cons (.ife (.op .ge (.cons (.var 1) (.cons (.op .len (.cons (.var 0) .nil)) .nil))) (.cons (.set (.nm 2) (.op .mod (.cons (.var 2) (.cons (.cst (.int (1000003))) .nil)))) .nil) .nil) (.cons (.set (.nm 3) (.op .mod (.cons (.op .mul (.cons (.op .add (.cons (.op .add (.cons (.op .mod (.cons (.var 2) (.cons (.cst (.int (2147483629))) .nil))) (.cons (.op .mul (.cons (.cst (.int (104729))) (.cons (.var 1) .nil))) .nil))) (.cons (.cst (.int (11))) .nil))) (.cons (.cst (.int (48271))) .nil))) (.cons (.cst (.int (2147483647))) .nil)))) (.cons (.ret (.mk .lst (.cons (.op .mul (.cons (.var 2) (.cons (.op .int (.cons (.op .ge (.cons (.var 2) (.cons (.op .pow (.cons (.cst (.int (10))) (.cons (.cst (.int (18))) .nil))) .nil))) .nil)) .nil))) (.cons (.var 3) .nil)))) .nil)))))
def bDraw : ISs := (.cons (.ife (.op .gt (.cons (.op .ix (.cons (.var 0) (.cons (.cst (.int (0))) .nil))) (.cons (.cst (.int (0))) .nil))) (.cons (.set (.nm 2) (.op .mod (.cons (.op .ix (.cons (.var 0) (.cons (.cst (.int (0))) .nil))) (.cons (.var 1) .nil)))) (.cons (.setix (.var 0) (.cst (.int (0))) (.op .fdiv (.cons (.op .ix (.cons (.var 0) (.cons (.cst (.int (0))) .nil))) (.cons (.var 1) .nil)))) (.cons (.ret (.var 2)) .nil))) .nil) (.cons (.setix (.var 0) (.cst (.int (1))) (.op .mod (.cons (.op .add (.cons (.op .mul (.cons (.op .ix (.cons (.var 0) (.cons (.cst (.int (1))) .nil))) (.cons (.cst (.int (48271))) .nil))) (.cons (.cst (.int (11))) .nil))) (.cons (.cst (.int (2147483647))) .nil)))) (.cons (.ret (.op .mod (.cons (.op .fdiv (.cons (.op .mod (.cons (.op .mul (.cons (.op .ix (.cons (.var 0) (.cons (.cst (.int (1))) .nil))) (.cons (.op .ix (.cons (.var 0) (.cons (.cst (.int (1))) .nil))) .nil))) (.cons (.cst (.int (2147483629))) .nil))) (.cons (.cst (.int (64))) .nil))) (.cons (.var 1) .nil)))) .nil)))
def bInteger (i : Nat) : ISs := (.cons (.set (.nm 1) (.op .ix (.cons (.op .lst (.cons (.cst (.int (7))) (.cons (.cst (.int (7))) (.cons (.cst (.int (1001))) (.cons (.op .pow (.cons (.cst (.int (10))) (.cons (.cst (.int (9))) .nil))) (.cons (.op .pow (.cons (.cst (.int (10))) (.cons (.cst (.int (24))) .nil))) .nil)))))) (.cons (.call i (.cons (.var 0) (.cons (.cst (.int (5))) .nil))) .nil)))) (.cons (.set (.nm 2) (.op .add (.cons (.op .mul (.cons (.call i (.cons (.var 0) (.cons (.op .pow (.cons (.cst (.int (10))) (.cons (.cst (.int (9))) .nil))) .nil))) (.cons (.op .pow (.cons (.cst (.int (10))) (.cons (.cst (.int (15))) .nil))) .nil))) (.cons (.call i (.cons (.var 0) (.cons (.op .pow (.cons (.cst (.int (10))) (.cons (.cst (.int (9))) .nil))) .nil))) .nil)))) (.cons (.set (.nm 3) (.op .ix (.cons (.op .lst (.cons (.call i (.cons (.var 0) (.cons (.op .pow (.cons (.cst (.int (10))) (.cons (.cst (.int (9))) .nil))) .nil))) (.cons (.var 2) .nil))) (.cons (.op .int (.cons (.op .eq (.cons (.var 1) (.cons (.op .pow (.cons (.cst (.int (10))) (.cons (.cst (.int (24))) .nil))) .nil))) .nil)) .nil)))) (.cons (.ret (.op .mul (.cons (.op .mod (.cons (.var 3) (.cons (.var 1) .nil))) (.cons (.op .ix (.cons (.op .lst (.cons (.cst (.int (1))) (.cons (.op .neg (.cons (.cst (.int (1))) .nil)) .nil))) (.cons (.call i (.cons (.var 0) (.cons (.cst (.int (2))) .nil))) .nil))) .nil)))) .nil))))
def bEuc : ISs := (.cons (.whl (.op .ne (.cons (.var 1) (.cons (.cst (.int (0))) .nil))) (.cons (.par [0, 1] (.cons (.var 1) (.cons (.op .mod (.cons (.var 0) (.cons (.var 1) .nil))) .nil))) .nil)) (.cons (.ret (.op .abs (.cons (.var 0) .nil))) .nil))
def fDraws : Fn := { np := 2, star := false, ns := 4, body := bDraws, keep := true }
def fDraw : Fn := { np := 2, star := false, ns := 3, body := bDraw, keep := false }
def fInteger (i : Nat) : Fn := { np := 1, star := false, ns := 4, body := bInteger i, keep := false }
def fEuc : Fn := { np := 2, star := false, ns := 2, body := bEuc, keep := false }
theorem c5 {T : Tab} {f : Nat} (hT : T f = some fDraw) (l : Nat) {M : Mem} {n : Nat} (hn : n < M.length) (c s u : Int) (hc : 0 ≤ c) (hs : 0 ≤ s) (hu : 0 < u) (hu2 : divOk u = true) : ∃ r c' s' : Int, 0 ≤ r ∧ r < u ∧ 0 ≤ c' ∧ 0 ≤ s' ∧
    callD T (l + 1) f [.rf n, .d (.int u)] (dm M n c s) = some (.ok (.d (.int r)) (dm M n c' s')) := by
  rw [call_eq hT rfl l _ (dm M n c s) rfl]
  by_cases h : 0 < c
  · refine ⟨c % u, c / u, s, Int.emod_nonneg _ (by omega), Int.emod_lt_of_pos _ hu, Int.ediv_nonneg hc (by omega), hs, ?_⟩
    simp [fDraw, bDraw, startE, dm_ix0 hn, h, opD_modP _ _ hu, fdivO _ _ hu2, dm_set0 hn, dm_take2]
  · have hm : ∀ x : Int, 0 ≤ x % 2147483647 ∧ x % 2147483647 < 2147483647 := fun x => ⟨Int.emod_nonneg _ (by decide), Int.emod_lt_of_pos _ (by decide)⟩
    obtain ⟨s2, e2⟩ : ∃ s2, s2 = (s * 48271 + 11) % 2147483647 := ⟨_, rfl⟩
    have h2 := hm (s * 48271 + 11)
    rw [← e2] at h2
    refine ⟨s2 * s2 % 2147483629 / 64 % u, c, s2, Int.emod_nonneg _ (by omega), Int.emod_lt_of_pos _ hu, hc, h2.1, ?_⟩
    simp [fDraw, bDraw, startE, dm_ix0 hn, dm_ix1 hn, h, opD_modP _ _ hu, opD_modP _ 2147483647 (by decide), opD_modP _ 2147483629 (by decide), opD_mulS s 48271 (.inr (by decide)), opD_mulS s2 s2 (by omega), fdivO _ 64 (by decide), dm_set1 hn, dm_take2, ← e2]
theorem c4b (T : Tab) (l : Nat) (v : Option Val) (xs : List Int) (k : Nat) (c1 : Int) (M : Mem) : ∃ c s : Int, 0 ≤ c ∧ 0 ≤ s ∧
    endFn true M.length (denSs (callD T l) (tlS (tlS (tlS bDraws))) [v, some (.d (.int k)), some (.d (.int c1)), none] M) = some (.ok (.rf M.length) (dm (M ++ [.gone]) M.length c s)) := by
  have m1 : ∀ x : Int, 0 ≤ x % 2147483647 := fun x => Int.emod_nonneg _ (by decide)
  refine ⟨c1 * (if 1000000000000000000 ≤ c1 then 1 else 0), _, ?_, m1 ((c1 % 2147483629 + 104729 * k + 11) * 48271), ?_⟩
  · split <;> omega
  · rw [← dm_end]
    have w : (if decide (1000000000000000000 ≤ c1) = true then (1 : Int) else 0) = if 1000000000000000000 ≤ c1 then 1 else 0 := by simp
    have w2 := opD_mulS c1 (if 1000000000000000000 ≤ c1 then 1 else 0) (.inr (by split <;> decide))
    simp [bDraws, tlS, opD_modP _ 2147483629 (by decide), opD_modP _ 2147483647 (by decide), opD_mulS 104729 _ (.inl (by decide)), opD_mulS _ 48271 (.inr (by decide)), pow18, w2]
    rw [runMk2, bndS_ok, seqF_rt]
    exact endK _ _ _ rfl
theorem c4 {T : Tab} {f : Nat} (hT : T f = some fDraws) (l : Nat) (xs : List Int) (k : Nat) (M : Mem) (hx : xs.length < 1000000) : ∃ c s : Int, 0 ≤ c ∧ 0 ≤ s ∧
    callD T (l + 1) f [.d (.frl (xs.map D.int)), .d (.int k)] M = some (.ok (.rf M.length) (dm (M ++ [.gone]) M.length c s)) := by
  rw [call_eq hT rfl l _ M rfl]
  show ∃ c s : Int, 0 ≤ c ∧ 0 ≤ s ∧ endFn true M.length (denSs (callD T l) (.cons (hdS bDraws) (.cons (hdS (tlS bDraws)) (.cons (hdS (tlS (tlS bDraws))) (tlS (tlS (tlS bDraws)))))) [some (.d (.frl (xs.map D.int))), some (.d (.int k)), none, none] M) = _
  rw [stp (env1 := [some (.d (.frl (xs.map D.int))), some (.d (.int k)), some (.d (.int 0)), none]) (M1 := M) (by simp [bDraws, hdS])]
  obtain ⟨c1, e1⟩ : ∃ c1 : Int, denS (callD T l) (hdS (tlS bDraws)) [some (.d (.frl (xs.map D.int))), some (.d (.int k)), some (.d (.int 0)), none] M =
      some (.nx [some (.d (.frl (xs.map D.int))), some (.d (.int k)), some (.d (.int c1)), none] M) := by
    by_cases h : xs = []
    · refine ⟨0, ?_⟩
      subst h
      simp [bDraws, hdS, tlS, f0]
    · have hl : 0 < xs.length := by
        cases xs with
        | nil => exact absurd rfl h
        | cons _ _ => simp
      obtain ⟨a, ha, e⟩ := atI_some (xs.map D.int) ((k : Int) % xs.length) (Int.emod_nonneg _ (by omega)) (by rw [List.length_map]; exact Int.emod_lt_of_pos _ (by omega))
      obtain ⟨x, -, rfl⟩ := List.mem_map.mp ha
      refine ⟨x, ?_⟩
      simp [bDraws, hdS, tlS, eqD_frl_lst0, h, opD_modP _ (xs.length : Int) (by omega), e]
  rw [stp e1]
  obtain ⟨c2, e2⟩ : ∃ c2 : Int, denS (callD T l) (hdS (tlS (tlS bDraws))) [some (.d (.frl (xs.map D.int))), some (.d (.int k)), some (.d (.int c1)), none] M =
      some (.nx [some (.d (.frl (xs.map D.int))), some (.d (.int k)), some (.d (.int c2)), none] M) := by
    by_cases h : (xs.length : Int) ≤ k
    · refine ⟨c1 % 1000003, ?_⟩
      simp [bDraws, hdS, tlS, h, opD_modP _ 1000003 (by decide)]
    · refine ⟨c1, ?_⟩
      simp [bDraws, hdS, tlS, h]
  rw [stp e2]
  exact c4b T l _ xs k c2 M
theorem c6 {T : Tab} {fd f : Nat} (hD : T fd = some fDraw) (hT : T f = some (fInteger fd)) (l : Nat) {M : Mem} {n : Nat} (hn : n < M.length) (c s : Int) (hc : 0 ≤ c) (hs : 0 ≤ s) : ∃ v c' s' : Int, Sm 100 v ∧ 0 ≤ c' ∧ 0 ≤ s' ∧
    callD T (l + 2) f [.rf n] (dm M n c s) = some (.ok (.d (.int v)) (dm M n c' s')) := by
  rw [call_eq hT rfl (l + 1) _ (dm M n c s) rfl]
  obtain ⟨r1, ca, sa, p1, q1, hca, hsa, e1⟩ := c5 hD l hn c s 5 hc hs (by decide) (by decide)
  obtain ⟨r2, cb, sb, p2, q2, hcb, hsb, e2⟩ := c5 hD l hn ca sa (1000000000) hca hsa (by decide) (by decide)
  obtain ⟨r3, cc, sc, p3, q3, hcc, hsc, e3⟩ := c5 hD l hn cb sb (1000000000) hcb hsb (by decide) (by decide)
  obtain ⟨r4, cd, sd, p4, q4, hcd, hsd, e4⟩ := c5 hD l hn cc sc (1000000000) hcc hsc (by decide) (by decide)
  obtain ⟨r5, ce, se, p5, q5, hce, hse, e5⟩ := c5 hD l hn cd sd 2 hcd hsd (by decide) (by decide)
  obtain ⟨a, ha, ea⟩ := atI_some [D.int 7, .int 7, .int 1001, .int (1000000000), .int (1000000000000000000000000)] r1 p1 (by simpa using q1)
  obtain ⟨z, ⟨hz, hz2⟩, rfl⟩ : ∃ z : Int, (0 < z ∧ z ≤ 1000000000000000000000000) ∧ a = .int z := by
    simp only [List.mem_cons, List.not_mem_nil, or_false] at ha
    rcases ha with rfl | rfl | rfl | rfl | rfl <;> exact ⟨_, by decide, rfl⟩
  obtain ⟨b, hb, eb⟩ := atI_some [D.int 1, .int (-1)] r5 p5 (by simpa using q5)
  obtain ⟨g, hg, rfl⟩ : ∃ g : Int, (-2 < g ∧ g < 2) ∧ b = .int g := by
    simp only [List.mem_cons, List.not_mem_nil, or_false] at hb
    rcases hb with rfl | rfl <;> exact ⟨_, by decide, rfl⟩
  obtain ⟨d, hd, ed⟩ := atI_some [D.int r4, .int (r2 * 1000000000000000 + r3)] (if z = 1000000000000000000000000 then 1 else 0) (by split <;> decide) (by split <;> simp)
  obtain ⟨y, rfl⟩ : ∃ y : Int, d = .int y := by
    simp only [List.mem_cons, List.not_mem_nil, or_false] at hd
    rcases hd with rfl | rfl <;> exact ⟨_, rfl⟩
  refine ⟨y % z * g, ce, se, ?_, hce, hse, ?_⟩
  · have h0 := Int.emod_nonneg y (by omega : z ≠ 0)
    have h1 := Int.emod_lt_of_pos y hz
    unfold Sm
    have q : g = -1 ∨ g = 0 ∨ g = 1 := by omega
    rcases q with rfl | rfl | rfl
    · rw [Int.mul_neg, Int.mul_one]; omega
    · rw [Int.mul_zero]; decide
    · rw [Int.mul_one]; omega
  have eq : eqD (.int z) (.int (1000000000000000000000000)) = some (decide (z = 1000000000000000000000000)) := eqD_int z 1000000000000000000000000
  simp [fInteger, bInteger, startE, pow9, pow15, pow24, e1, ea, e2, e3, e4, e5, eb, ed, opD_mulS _ (1000000000000000) (.inr (by decide)), opD_modP _ _ hz, opD_mulS _ g (.inr (by omega)), eq, dm_take2]
/-! the same, said of the memory alone -/
theorem draws_ok {T : Tab} {f : Nat} (hT : T f = some fDraws) (l : Nat) (xs : List Int) (k : Nat) (M : Mem) (hx : xs.length < 1000000) : ∃ M1, Dr (M ++ [.gone]) M.length M1 ∧
    callD T (l + 1) f [.d (.frl (xs.map D.int)), .d (.int k)] M = some (.ok (.rf M.length) M1) := by
  obtain ⟨c, s, hc, hs, e⟩ := c4 hT l xs k M hx
  exact ⟨_, ⟨c, s, hc, hs, rfl⟩, e⟩
theorem draw_ok {T : Tab} {f : Nat} (hT : T f = some fDraw) (l : Nat) {M0 M : Mem} {n : Nat} (hn : n < M0.length) (h : Dr M0 n M) (u : Int) (hu : 0 < u) (hu2 : divOk u = true) : ∃ (r : Int) (M1 : Mem), 0 ≤ r ∧ r < u ∧ Dr M0 n M1 ∧
    callD T (l + 1) f [.rf n, .d (.int u)] M = some (.ok (.d (.int r)) M1) := by
  obtain ⟨c, s, hc, hs, rfl⟩ := h
  obtain ⟨r, c', s', h1, h2, h3, h4, e⟩ := c5 hT l hn c s u hc hs hu hu2
  exact ⟨r, _, h1, h2, ⟨c', s', h3, h4, rfl⟩, e⟩
theorem integer_ok {T : Tab} {fd f : Nat} (hD : T fd = some fDraw) (hT : T f = some (fInteger fd)) (l : Nat) {M0 M : Mem} {n : Nat} (hn : n < M0.length) (h : Dr M0 n M) : ∃ (v : Int) (M1 : Mem), Sm 100 v ∧ Dr M0 n M1 ∧
    callD T (l + 2) f [.rf n] M = some (.ok (.d (.int v)) M1) := by
  obtain ⟨c, s, hc, hs, rfl⟩ := h
  obtain ⟨v, c', s', h1, h3, h4, e⟩ := c6 hD hT l hn c s hc hs
  exact ⟨v, _, h1, ⟨c', s', h3, h4, rfl⟩, e⟩
theorem Dr.len {M0 M : Mem} {n : Nat} (h : Dr M0 n M) : M.length = M0.length := by
  obtain ⟨c, s, -, -, rfl⟩ := h
  exact dm_len _ _ _ _
/-- Euclid's way -/
def euc (a b : Int) : Int := if h : b = 0 then (if a < 0 then -a else a) else euc b (pmod a b)
termination_by b.natAbs
decreasing_by exact pmod_lt a b h
theorem euc_zero (a : Int) : euc a 0 = if a < 0 then -a else a := by rw [euc, dif_pos rfl]
theorem euc_step (a b : Int) (h : b ≠ 0) : euc a b = euc b (pmod a b) := by rw [euc, dif_neg h]
theorem euc_nn (n : Nat) : ∀ a b : Int, b.natAbs ≤ n → 0 ≤ euc a b := by
  induction n with
  | zero =>
    intro a b h
    have : b = 0 := by omega
    subst this
    rw [euc_zero]
    split <;> omega
  | succ n ih =>
    intro a b h
    by_cases z : b = 0
    · subst z
      rw [euc_zero]
      split <;> omega
    · rw [euc_step a b z]
      have := pmod_lt a b z
      exact ih b _ (by omega)
theorem euc_pos (a b : Int) : 0 ≤ euc a b := euc_nn _ a b (Nat.le_refl _)
theorem euc_loop (C : Orc) (n : Nat) : ∀ (a b : Int) (M : Mem), b.natAbs ≤ n → ∃ a' : Int, whl (denB C (.op .ne (.cons (.var 1) (.cons (.cst (.int (0))) .nil)))) (denSs C (.cons (.par [0, 1] (.cons (.var 1) (.cons (.op .mod (.cons (.var 0) (.cons (.var 1) .nil))) .nil))) .nil)) [some (.d (.int a)), some (.d (.int b))] M =
    some (.nx [some (.d (.int a')), some (.d (.int 0))] M) ∧ (if a' < 0 then -a' else a') = euc a b := by
  induction n with
  | zero =>
    intro a b M h
    have : b = 0 := by omega
    subst this
    refine ⟨a, ?_, (euc_zero a).symm⟩
    rw [whl_eq]
    simp []
  | succ n ih =>
    intro a b M h
    by_cases z : b = 0
    · subst z
      refine ⟨a, ?_, (euc_zero a).symm⟩
      rw [whl_eq]
      simp []
    · have := pmod_lt a b z
      obtain ⟨a', h1, h2⟩ := ih b (pmod a b) M (by omega)
      refine ⟨a', ?_, by rw [euc_step a b z]; exact h2⟩
      rw [whl_eq]
      simp [z, opD_mod a b z, parSet]
      exact h1
theorem euc_ok {T : Tab} {f : Nat} (hT : T f = some fEuc) (l : Nat) (a b : Int) (M : Mem) : callD T (l + 1) f [.d (.int a), .d (.int b)] M = some (.ok (.d (.int (euc a b))) M) := by
  rw [call_eq hT rfl l _ M rfl]
  obtain ⟨a', h1, h2⟩ := euc_loop (callD T l) b.natAbs a b M (Nat.le_refl _)
  simp [fEuc, bEuc, startE]
  rw [h1]
  simp [h2]
theorem euc_gcd (n : Nat) : ∀ a b : Int, b.natAbs ≤ n → euc a b = Int.gcd a b := by
  induction n with
  | zero =>
    intro a b h
    have : b = 0 := by omega
    subst this
    rw [euc_zero, Int.gcd_zero_right]
    split <;> omega
  | succ n ih =>
    intro a b h
    by_cases z : b = 0
    · subst z
      rw [euc_zero, Int.gcd_zero_right]
      split <;> omega
    · have p := pmod_lt a b z
      rw [euc_step a b z, ih b _ (by omega)]
      have q : ∃ d : Int, pmod a b = a - b * d := by
        unfold pmod
        split
        · exact ⟨a / b, Int.emod_def a b⟩
        · exact ⟨a.fdiv b, Int.fmod_def a b⟩
      obtain ⟨d, q⟩ := q
      rw [q, Int.gcd_comm b, Int.gcd_sub_mul_left_left]
section
variable (C : Orc) (env : Env) (M : Mem)
@[simp] theorem eI_enum (es : IEs) : denI C (.enum es) env M = bnd (denEs C es env M) runEnum := by first | rfl | simp only [denI]
@[simp] theorem eI_zip (es : IEs) : denI C (.zip es) env M = bnd (denEs C es env M) runZip := by first | rfl | simp only [denI]
@[simp] theorem rEn_l (xs : List D) : runEnum [.d (.lst xs)] M = some (.ok (enumL 0 xs) M) := rfl
@[simp] theorem rZi_l (xs ys : List D) : runZip [.d (.lst xs), .d (.lst ys)] M = some (.ok (zipL xs ys) M) := rfl
@[simp] theorem rZi_t (xs ys : List D) : runZip [.d (.tup xs), .d (.tup ys)] M = some (.ok (zipL xs ys) M) := rfl
end
/-- texts that can be laid -/
abbrev Tx := { x : Str // PyData.strOk x = true }
instance : Enc Tx where
  enc := fun x => .str x.1
  pd := fun x => .str x.1
  toP := fun _ => by simp only [D.toP]
  lay := fun a => by simp only [PyData.canLay0, a.2]
  dep := 0
  depth := fun _ => by simp only [PyData.depth]; omega
  eqv := fun a b => by
    simp only [PyData.eqv, beq_iff_eq]
    exact ⟨fun h => Subtype.ext h, fun h => congrArg _ h⟩
theorem eqD_str (a b : Str) (ha : PyData.strOk a = true) (hb : PyData.strOk b = true) : eqD (.str a) (.str b) = some (decide (a = b)) := by
  have := eqD_enc (α := Tx) ⟨a, ha⟩ ⟨b, hb⟩ (by decide)
  simp only [Subtype.mk.injEq] at this
  exact this
theorem eqD_txs (a b : List Tx) : eqD (.lst (a.map fun t => .str t.1)) (.lst (b.map fun t => .str t.1)) = some (decide (a = b)) := eqD_enc (α := List Tx) a b (by decide)
theorem opD_tup0 : opD .tup [] = some (.tup []) := opD_tupS _ (by decide)
end PyI

/-! PyI 15: the words of a text's head. -/
namespace PyI
open PySem PySem.Spec PyProof.Rows L2
def lk {α : Type} (d : α) (l : List (Nat × α)) (n : Nat) : α := (l.lookup n).getD d
theorem an {α : Type} {P : α → Prop} : ∀ p ∈ ([] : List α), P p := fun p h => by cases h
theorem ac {α : Type} {P : α → Prop} {a : α} {l : List α} (h : P a) (t : ∀ p ∈ l, P p) : ∀ p ∈ a :: l, P p := fun p hp => by
  rcases List.mem_cons.mp hp with rfl | hp
  · exact h
  · exact t p hp
theorem mem_lk {α β : Type} [BEq α] [LawfulBEq α] {x : α} {g : β} : ∀ {l : List (α × β)}, l.lookup x = some g → (x, g) ∈ l
  | [], h => by cases h
  | (y, b) :: l, h => by
    rw [List.lookup_cons] at h
    cases e : x == y with
    | true =>
      rw [e] at h
      cases h
      rw [eq_of_beq e]
      exact List.mem_cons_self
    | false =>
      rw [e] at h
      exact List.mem_cons_of_mem _ (mem_lk h)
theorem lku {α β : Type} [BEq α] [LawfulBEq α] {P : α → β → Prop} {l : List (α × β)} (h : ∀ p ∈ l, P p.1 p.2) (x : α) (g : β) (e : l.lookup x = some g) : P x g := h (x, g) (mem_lk e)
theorem ihs {P : Nat → Prop} {l : List Nat} (h : ∀ c ∈ l, P c) (c : Nat) (e : l.contains c = true) : P c := h c (List.contains_iff_mem.mp e)
theorem inj_of {l : List Nat} {nm : Nat → Str} (h : ∀ f ∈ l, ∀ g ∈ l, nm f = nm g → f = g) (f g : Nat) (hf : l.contains f = true) (hg : l.contains g = true) (e : nm f = nm g) : f = g := ihs (P := fun f => ∀ g ∈ l, nm f = nm g → f = g) h f hf g (List.contains_iff_mem.mp hg) e
/-- a class with instances, as the top left it -/
structure ClF (K : PySem.W.Frag) (C : Addr) : Prop where
  pg : PySem.W.plainGet K C Str.empty = true
  hd : PySem.W.hasDictIn K C = true
  po : PySem.W.plainOver K C = true
  sa : PySem.W.findIn K (.ref C) "__setattr__" = some (some (.builtin "object.__setattr__"))
  ha : PySem.W.findIn K (.ref C) "__class__" = some (some (.builtin "object.__class__"))
  hn : PySem.W.specialIn K (.builtin "object.__class__") "__get__" = some (some (.builtin "getset_descriptor.__get__"))
  htk : PySem.W.takesIn K (.builtin "object.__class__") = some true
  hm : PySem.W.mroIn K C (.type "object") = some true
  ic : PySem.W.isClsIn K C = true
  ty : PySem.W.typeIn K (.ref C) = some (.type "type")
  se : PySem.W.subIn K (.ref C) (.ref C) = some true
  t1 : PySem.W.subIn K (.ref C) (.type "int") = some false
  t2 : PySem.W.subIn K (.ref C) (.type "bool") = some false
  t3 : PySem.W.subIn K (.ref C) (.type "str") = some false
  t4 : PySem.W.subIn K (.ref C) (.type "tuple") = some false
  t5 : PySem.W.subIn K (.ref C) (.type "list") = some false
  t6 : PySem.W.subIn K (.ref C) (.type "dict") = some false
  u0 : PySem.W.subIn K (.type "NoneType") (.ref C) = some false
  u1 : PySem.W.subIn K (.type "int") (.ref C) = some false
  u2 : PySem.W.subIn K (.type "bool") (.ref C) = some false
  u3 : PySem.W.subIn K (.type "str") (.ref C) = some false
  u4 : PySem.W.subIn K (.type "tuple") (.ref C) = some false
  u5 : PySem.W.subIn K (.type "list") (.ref C) = some false
  u6 : PySem.W.subIn K (.type "dict") (.ref C) = some false
theorem kit_ty {K : PySem.W.Frag} {a : Addr} {t : String} {b : Bool} (hm : PySem.W.kitMeta t = true) (h : PySem.W.subIn K (.ref a) (.type t) = some b) : PySem.W.kitOne K (.ref a) (.type t) = some b := by
  have e : (Value.ref a == Value.type t) = false := rfl
  unfold PySem.W.kitOne PySem.W.kitCls
  rw [e]
  simp only [hm, if_true, Bool.false_eq_true, if_false]
  exact h
theorem kit_ref {K : PySem.W.Frag} {t : Value} {C : Addr} {b : Bool} (h1 : PySem.W.isClsIn K C = true) (h2 : PySem.W.typeIn K (.ref C) = some (.type "type")) (h3 : PySem.W.subIn K t (.ref C) = some b) (h4 : PySem.W.subIn K (.ref C) (.ref C) = some true) : PySem.W.kitOne K t (.ref C) = some b := by
  unfold PySem.W.kitOne
  split
  · rename_i e
    have e : t = .ref C := by simpa using e
    subst e
    rw [h3] at h4
    exact h4.symm
  · unfold PySem.W.kitCls
    have e2 : ((PySem.W.clsIn K C).isSome && PySem.W.typeIn K (.ref C) == some (.type "type")) = true := by
      rw [show (PySem.W.clsIn K C).isSome = true from h1, h2] <;> rfl
    simp only [e2, if_true]
    exact h3
theorem ClF.ins {K : PySem.W.Frag} {C : Addr} (c : ClF K C) : InsF K C where
  cl := ⟨c.pg, c.hd, c.po, c.sa⟩
  ha := c.ha
  hn := c.hn
  htk := c.htk
  hm := c.hm
  nt := ac (kit_ty (by decide +kernel) c.t1) (ac (kit_ty (by decide +kernel) c.t2) (ac (kit_ty (by decide +kernel) c.t3) (ac (kit_ty (by decide +kernel) c.t4) (ac (kit_ty (by decide +kernel) c.t5) (ac (kit_ty (by decide +kernel) c.t6) an)))))
theorem ClF.own {S : Sta} {d : Nat} {cs : List Nat} (c : ClF S.K (S.ca d)) (h : ∀ e, S.ih e = true → PySem.W.subIn S.K (.ref (S.ca e)) (.ref (S.ca d)) = some (cs.contains e)) : OwnTy S d cs where
  blt := ac (kit_ref c.ic c.ty c.u0 c.se) (ac (kit_ref c.ic c.ty c.u2 c.se) (ac (kit_ref c.ic c.ty c.u1 c.se) (ac (kit_ref c.ic c.ty c.u3 c.se) (ac (kit_ref c.ic c.ty c.u4 c.se) (ac (kit_ref c.ic c.ty c.u5 c.se) (ac (kit_ref c.ic c.ty c.u6 c.se) an))))))
  ins := fun e he => kit_ref c.ic c.ty (h e he) c.se
theorem zip_at {x : Str} : ∀ {ns : List Str} {vs : List V} {i : Nat}, ns.findIdx? (· == x) = some i → vs.length = ns.length → (ns.zip vs).lookup x = vs[i]?
  | [], vs, i, h, _ => by cases h
  | n :: ns, [], i, h, l => by cases l
  | n :: ns, v :: vs, i, h, l => by
    rw [List.findIdx?_cons] at h
    rw [List.zip_cons_cons, List.lookup_cons]
    by_cases e : n = x
    · subst e
      simp at h
      subst h
      simp
    · have e1 : (n == x) = false := by simpa using e
      have e2 : (x == n) = false := by simpa using fun z : x = n => e z.symm
      rw [e1] at h
      rw [e2]
      simp only [Bool.false_eq_true, if_false] at h
      cases q : ns.findIdx? (· == x) with
      | none => rw [q] at h; cases h
      | some j =>
        rw [q] at h
        cases h
        show (ns.zip vs).lookup x = (v :: vs)[j + 1]?
        rw [List.getElem?_cons_succ]
        exact zip_at q (by simpa using l)
/-- an entry of a class table: where the class is there -/
theorem yes {P : Prop} {b : Bool} (h : P) : b = true → P := fun _ => h
theorem no {P : Prop} {b : Bool} (h : b = false) : b = true → P := fun e => by rw [h] at e; cases e
/-- a tuple that stands at the top -/
theorem glb_tup {S : Sta} {mg : Str → Option Value} {x : Str} {a : Addr} {xs : List D} {vs : List V} {us : List Value} {od : Option Addr} {n : Nat} {sl : Array (Option Value)} (hm : mg x = some (.ref a)) (hk : S.K.lookup a = some ⟨.type "tuple", od, .seq us.toArray n, sl⟩)
    (hz : us.length ≤ 1000) (rv : Vals vs us) (rd : ∀ F, RepL S F xs vs) : ∃ v u, mg x = some u ∧ L2.RelV v u ∧ ∀ F, RepD S F (.tup xs) v :=
  ⟨V.ref a, _, hm, rfl, fun F => rep_tup (.inr ⟨_, us.toArray, n, hk, rfl, rfl, by rw [List.size_toArray]; exact Nat.le_trans hz (by decide +kernel), by simpa using rv⟩) (rd F)⟩
theorem vi {i : Int} {t : Nat} {vs : List V} {us : List Value} (h : Vals vs us) : Vals (V.int i :: vs) (Value.int i t :: us) := .cons ⟨t, rfl⟩ h
/-- a def's parameters, the last ones by defaults -/
theorem bind_dfl {K : PySem.W.Frag} {d : DefT} {kV doc pm cdv ct : Value} {an : Option Addr} {T : Addr} {o : Obj} {its : List Value} {m : Nat} (n j : Nat)
    (hT : K.lookup T = some o) (oT : o.data = .seq its.toArray m) (hn : n + (its.length - j) = d.ps.length)
    (h : ∀ us : List Value, us.length = n → ∃ k, bindArgs (PySem.W.fnOf d.x d.qual (defArgs d.st) (defBody d.st) (defScope d.st) (.ref T) kV doc pm an cdv ct) ⟨us, []⟩ = seqItems? (.ref T) >>= k ∧ k (some its.toArray) = pure (d.ps.zip (us ++ its.drop j))) :
    Binds K (PySem.W.fnOf d.x d.qual (defArgs d.st) (defBody d.st) (defScope d.st) (.ref T) kV doc pm an cdv ct) d.ps (its.drop j) := by
  intro s us X hl
  have l2 : us.length = n := by
    rw [List.length_append, List.length_drop] at hl
    omega
  obtain ⟨k, e1, e2⟩ := h us l2
  refine BindsTo.of_looks fun M => ?_
  rw [e1]
  exact looks_items X hT oT (.of_pure e2)
/-- defaults of a def -/
theorem dfl_of {S : Sta} {g : Nat} {ds : List D} {fd : FuncData} {ps : List Str} {us : List Value} (hc : ∀ d ∈ ds, isC d = true) (hfd : S.fd g = fd) (hps : S.ps g = ps) (rT : Vals (ds.map toV) us) (h : Binds S.K fd ps us) : DflF S g ds := by
  subst hfd hps
  exact ⟨hc, us, h, rT⟩
/-- .. and some by name: each parameter is given -/
def pickU (l : List Value) (q : List (Nat ⊕ D)) : List Value := q.map fun z => match z with
  | .inl i => (l[i]?).getD .none
  | .inr _ => .none
def gUof (q : List (Nat ⊕ D)) (us ws : List Value) : List Value := match us with
  | [] => []
  | a :: r => a :: pickU (r ++ ws) q
theorem vals_getD {vs : List V} {us : List Value} (r : Vals vs us) : ∀ i : Nat, L2.RelV ((vs[i]?).getD V.non) ((us[i]?).getD Value.none) := by
  induction r with
  | nil => intro i; simp; rfl
  | cons r1 r2 ih =>
    intro i
    cases i with
    | zero => simpa using r1
    | succ i => simpa using ih i
theorem pick_rel {vs : List V} {us : List Value} (r : Vals vs us) : ∀ {q : List (Nat ⊕ D)}, (∀ d, Sum.inr d ∉ q) → Vals (pickV vs q) (pickU us q)
  | [], _ => .nil
  | .inl i :: q, h => .cons (vals_getD r i) (pick_rel r fun d hd => h d (List.mem_cons_of_mem _ hd))
  | .inr d :: q, h => absurd List.mem_cons_self (h d)
theorem kbn_of {K : PySem.W.Frag} {d : DefT} {kV doc pm cdv ct : Value} {an : Option Addr} {T : Addr} {o : Obj} {its : List Value} {m : Nat} {n : Nat} {ks : List Str} {q : List (Nat ⊕ D)} (hq : ∀ d, Sum.inr d ∉ q)
    (hT : K.lookup T = some o) (oT : o.data = .seq its.toArray m)
    (h : ∀ us ws : List Value, us.length = n → ws.length = ks.length → ∃ k, bindArgs (PySem.W.fnOf d.x d.qual (defArgs d.st) (defBody d.st) (defScope d.st) (.ref T) kV doc pm an cdv ct) ⟨us, ks.zip ws⟩ = seqItems? (.ref T) >>= k ∧ k (some its.toArray) = pure (d.ps.zip (gUof q us ws))) :
    KBn K (PySem.W.fnOf d.x d.qual (defArgs d.st) (defBody d.st) (defScope d.st) (.ref T) kV doc pm an cdv ct) d.ps n ks (gUof q) (gVof q) where
  to := fun s us ws X l1 l2 => by
    obtain ⟨k, e1, e2⟩ := h us ws l1 l2
    refine BindsTo.of_looks fun M => ?_
    rw [e1]
    exact looks_items X hT oT (.of_pure e2)
  rel := fun r rz => by
    cases r with
    | nil => exact .nil
    | cons r1 r2 => exact .cons r1 (pick_rel (L2.Vals.append r2 rz) hq)
theorem kwd_of {S : Sta} {g n : Nat} {ks : List Str} {q : List (Nat ⊕ D)} {fd : FuncData} {ps : List Str} (hf : S.fix g = true) (hq : ∀ d, Sum.inr d ∉ q) (hfd : S.fd g = fd) (hps : S.ps g = ps) (h : KBn S.K fd ps n ks (gUof q) (gVof q)) :
    S.fix g = true ∧ (∀ d, Sum.inr d ∈ q → isC d = true) ∧ ∃ gU, KBn S.K (S.fd g) (S.ps g) n ks gU (gVof q) := by
  subst hfd hps
  exact ⟨hf, fun d hd => absurd hd (hq d), _, h⟩
end PyI

/-! PyI 16: what each new form means, one row each. -/
namespace PyI
open PySem
section
variable (C : Orc) (env : Env) (M : Mem)
@[simp] theorem eE_fld (f : Nat) (cs : List (Nat × Nat)) (e : IE) : denE C (.fld f cs e) env M = bnd (denE C e env M) fun v M1 => match getF f cs v M1 with | some x => some (.ok (.d x) M1) | none => none := by first | rfl | simp only [denE]
@[simp] theorem eE_callp (f : Nat) (pl : Pl) (es : IEs) : denE C (.callp f pl es) env M = bnd (denEs C es env M) fun vs M1 => match pl.run vs with | some ws => C f ws M1 | none => none := by first | rfl | simp only [denE]
@[simp] theorem eE_prop (tbl : List (Nat × Nat)) (e : IE) : denE C (.prop tbl e) env M = bnd (denE C e env M) fun v M1 => match (clsOf v M1).bind (fun c => tbl.lookup c) with | some g => quiet (C g [v] M1) | none => none := by first | rfl | simp only [denE]
@[simp] theorem eE_mth (tbl : List (Nat × Nat)) (pl : Pl) (o : IE) (es : IEs) : denE C (.mth tbl pl o es) env M = bnd (denE C o env M) fun v M1 => match (clsOf v M1).bind (fun c => tbl.lookup c) with
    | some g => bnd (denEs C es env M1) fun vs M2 => match pl.run vs with
      | some ws => C g (v :: ws) M2
      | none => none
    | none => none := by first | rfl | simp only [denE]
@[simp] theorem eE_new (c : Nat) (fl : List Nat) (f : Nat) (pl : Pl) (es : IEs) : denE C (.new c fl f pl es) env M = bnd (denEs C es env M) fun vs M1 => match pl.run vs with
    | some ws => endNew c fl M1.length (C f (.rf M1.length :: ws) (M1 ++ [.ins c []]))
    | none => none := by first | rfl | simp only [denE]
@[simp] theorem eE_newv (i c : Nat) (fl : List Nat) (f : Nat) (pl : Pl) (es : IEs) : denE C (.newv i c fl f pl es) env M = match env[i]? with
    | some (some (.d (.cls d))) => if d = c then bnd (denEs C es env M) fun vs M1 => match pl.run vs with
        | some ws => endNew c fl M1.length (C f (.rf M1.length :: ws) (M1 ++ [.ins c []]))
        | none => none
      else none
    | _ => none := by first | rfl | simp only [denE]
@[simp] theorem eE_eql (neg : Bool) (tbl : List (Nat × Nat)) (a b : IE) : denE C (.eql neg tbl a b) env M = bnd (denE C a env M) fun v M1 => bnd (denE C b env M1) fun w M2 => runEql C tbl neg v w M2 := by first | rfl | simp only [denE]
@[simp] theorem eB_eql (neg : Bool) (tbl : List (Nat × Nat)) (a b : IE) : denB C (.eql neg tbl a b) env M = bnd (denE C (.eql neg tbl a b) env M) toB := rfl
theorem runEql_ok {tbl : List (Nat × Nat)} {neg : Bool} {xs ys : List D} (h : allSame C tbl xs ys) : runEql C tbl neg (.d (.lst xs)) (.d (.lst ys)) M = some (.ok (.d (.bl (!neg))) M) := if_pos h
@[simp] theorem eE_eqo (neg : Bool) (tbl up : List (Nat × Nat)) (a b : IE) : denE C (.eqo neg tbl up a b) env M = bnd (denE C a env M) fun v M1 => bnd (denE C b env M1) fun w M2 =>
    match eqWho tbl up (clsOf v M2) (clsOf w M2) (isTupV w) with
    | some (sw, g) => bnd (quiet (C g (if sw then [w, v] else [v, w]) M2)) fun r M3 => match asB r with
      | some c => some (.ok (.d (.bl (if neg then !c else c))) M3)
      | none => none
    | none => if plainV v M2 && plainV w M2 then runOp (if neg then .ne else .eq) [v, w] M2 else none := by first | rfl | simp only [denE]
@[simp] theorem eE_fstr (es : IEs) : denE C (.fstr es) env M = denF C es Str.empty env M := by first | rfl | simp only [denE]
@[simp] theorem eE_anint (e : IE) : denE C (.anint e) env M = bnd (denE C e env M) fun v M1 => match v with | .d (.int i) => some (.ok (.d (.int i)) M1) | _ => none := by first | rfl | simp only [denE]
@[simp] theorem eE_rpr (tbl : List (Nat × Nat)) (e : IE) : denE C (.rpr tbl e) env M = bnd (denE C e env M) fun v M1 => match clsOf v M1 with
    | some c => match tbl.lookup c with
      | some g => match quiet (C g [v] M1) with
        | some (.ok (.d (.str y)) M2) => some (.ok (.d (.str y)) M2)
        | _ => none
      | none => none
    | none => runOp .repr [v] M1 := by first | rfl | simp only [denE]
@[simp] theorem eE_chain (o o' : Op) (a b d : IE) : denE C (.chain o o' a b d) env M = bnd (denE C a env M) fun v M1 => bnd (denE C b env M1) fun w M2 => bnd (runOp o [v, w] M2) fun r M3 => match asB r with
    | some true => bnd (denE C d env M3) fun u M4 => runOp o' [w, u] M4
    | some false => some (.ok (.d (.bl false)) M3)
    | none => none := by first | rfl | simp only [denE]
@[simp] theorem eB_fld (f : Nat) (cs : List (Nat × Nat)) (e : IE) : denB C (.fld f cs e) env M = bnd (denE C (.fld f cs e) env M) toB := rfl
@[simp] theorem eB_callp (f : Nat) (pl : Pl) (es : IEs) : denB C (.callp f pl es) env M = bnd (denE C (.callp f pl es) env M) toB := rfl
@[simp] theorem eB_prop (tbl : List (Nat × Nat)) (e : IE) : denB C (.prop tbl e) env M = bnd (denE C (.prop tbl e) env M) toB := rfl
@[simp] theorem eB_mth (tbl : List (Nat × Nat)) (pl : Pl) (o : IE) (es : IEs) : denB C (.mth tbl pl o es) env M = bnd (denE C (.mth tbl pl o es) env M) toB := rfl
@[simp] theorem eB_eqo (neg : Bool) (tbl up : List (Nat × Nat)) (a b : IE) : denB C (.eqo neg tbl up a b) env M = bnd (denE C (.eqo neg tbl up a b) env M) toB := rfl
@[simp] theorem eB_chain (o o' : Op) (a b d : IE) : denB C (.chain o o' a b d) env M = bnd (denE C (.chain o o' a b d) env M) toB := rfl
@[simp] theorem eS_setf (f : Nat) (o e : IE) : denS C (.setf f o e) env M = bndS (denE C e env M) env fun v M1 => bndS (denE C o env M1) env fun ov M2 => match setF f ov v M2 with
    | some M3 => some (.nx env M3)
    | none => none := by first | rfl | simp only [denS]
@[simp] theorem eS_app (o e : IE) : denS C (.app o e) env M = bndS (denE C o env M) env fun ov M1 => if isLst ov M1 = true then bndS (denE C e env M1) env fun v M2 => match appV ov v M2 with
      | some M3 => some (.nx env M3)
      | none => none
    else none := by first | rfl | simp only [denS]
@[simp] theorem eH_nil (x : Xn) : denH C .nil x env M = some (.ex x env M) := by first | rfl | simp only [denH]
@[simp] theorem eH_cons (cs : List Nat) (h : ISs) (r : IHs) (x : Xn) : denH C (.cons cs h r) x env M = if cs.contains x.c = true then denSs C h env M else denH C r x env M := by first | rfl | simp only [denH]
@[simp] theorem pl_dfl (ds : List D) (vs : List Val) : Pl.run (.dfl ds) vs = some (vs ++ ds.map .d) := rfl
@[simp] theorem pl_by (q : List (Nat ⊕ D)) (vs : List Val) : Pl.run (.by q) vs = byV vs q := rfl
@[simp] theorem getF_d (f : Nat) (cs : List (Nat × Nat)) (c : Nat) (fs : List D) : getF f cs (.d (.ins c fs)) M = (cs.lookup c).bind fun i => fs[i]? := rfl
@[simp] theorem cls_d (c : Nat) (fs : List D) : clsOf (.d (.ins c fs)) M = some c := rfl
@[simp] theorem quiet_ok {α : Type} (a : α) : quiet (some (R.ok a M)) = some (.ok a M) := rfl
@[simp] theorem opD_isin (x y : D) : opD .isin [x, y] = (inD x y).map .bl := rfl
@[simp] theorem opD_notin (x y : D) : opD .notin [x, y] = (inD x y).map fun b => .bl (!b) := rfl
theorem opD_addT (xs ys : List D) (h : xs.length + ys.length ≤ 1000) : opD .add [.tup xs, .tup ys] = some (.tup (xs ++ ys)) := if_pos (Evl.sz_of (Nat.le_trans h (by decide)))
theorem opD_addS (a b : Str) (h : a.length + b.length ≤ 100000) : opD .add [.str a, .str b] = some (.str (a ++ b)) := if_pos (Nat.le_trans h (by decide +kernel))
theorem opD_addL (xs ys : List D) (h : xs.length + ys.length ≤ 1000) : opD .add [.lst xs, .lst ys] = some (.lst (xs ++ ys)) := if_pos (Evl.sz_of (Nat.le_trans h (by decide)))
@[simp] theorem mGet (c : Cell) : (M ++ [c])[M.length]? = some c := by simp
@[simp] theorem mSet (c d : Cell) : (M ++ [c]).set M.length d = M ++ [d] := by simp
@[simp] theorem mTake1 (c : Cell) : (M ++ [c]).take (M.length + 1) = M ++ [c] := List.take_of_length_le (by simp)
@[simp] theorem runOp6 (o : Op) (x y z u v w : D) : runOp o [.d x, .d y, .d z, .d u, .d v, .d w] M = (opD o [x, y, z, u, v, w]).map fun x => .ok (.d x) M := runOp_d o [x, y, z, u, v, w] M
@[simp] theorem runOp10 (o : Op) (x y z u v w p q r s : D) : runOp o [.d x, .d y, .d z, .d u, .d v, .d w, .d p, .d q, .d r, .d s] M = (opD o [x, y, z, u, v, w, p, q, r, s]).map fun x => .ok (.d x) M := runOp_d o [x, y, z, u, v, w, p, q, r, s] M
@[simp] theorem opD_lst10 (x y z u v w p q r s : D) : opD .lst [x, y, z, u, v, w, p, q, r, s] = some (.lst [x, y, z, u, v, w, p, q, r, s]) := opD_lstS _ (by simp)
@[simp] theorem mTake (c : Cell) : (M ++ [c]).take M.length = M := by simp
/-- the attribute of a new object -/
theorem setF_new (f : Nat) (c : Nat) (fs : List (Nat × D)) (x : D) (h : fs.length < 900) : setF f (.rf M.length) (.d x) (M ++ [.ins c fs]) = some (M ++ [.ins c (putF fs f x)]) := by
  unfold setF
  simp [Val.hold, h]
theorem getF_new (f : Nat) (cs : List (Nat × Nat)) (c : Nat) (fs : List (Nat × D)) (h : (cs.lookup c).isSome = true) : getF f cs (.rf M.length) (M ++ [.ins c fs]) = fs.lookup f := by
  show (match (M ++ [Cell.ins c fs])[M.length]? with
    | some (.ins c fs) => if (cs.lookup c).isSome then fs.lookup f else none
    | _ => none) = _
  rw [mGet]
  simp only [h, if_true]
theorem endNew_ok (c : Nat) (fl : List Nat) (fs : List (Nat × D)) (h : fs.map (·.1) = fl) : endNew c fl M.length (some (.ok (.d .non) (M ++ [.ins c fs]))) = some (.ok (.d (.ins c (fs.map (·.2)))) M) := by
  unfold endNew
  simp [h]
@[simp] theorem eE_idx (o e : IE) : denE C (.idx o e) env M = bnd (denE C o env M) fun v M1 => match tupAt v M1 with
    | some xs => bnd (denE C e env M1) fun w M2 => match w.see M2 with
      | some y => (indexD xs y).map fun z => .ok (.d z) M2
      | none => none
    | none => none := by first | rfl | simp only [denE]
@[simp] theorem eE_mkt (e : IE) : denE C (.mkt e) env M = bnd (denE C e env M) fun v M1 => runMkt v M1 := by first | rfl | simp only [denE]
@[simp] theorem eS_asg2 (i j : Nat) (e : IE) : denS C (.asg2 i j e) env M = bndS (denE C e env M) env fun v M1 => some (.nx ((env.set i (some v)).set j (some v)) M1) := by first | rfl | simp only [denS]
@[simp] theorem eS_bad : denS C .bad env M = none := by first | rfl | simp only [denS]
@[simp] theorem opD_tuplel (xs : List D) : opD .tuple [.lst xs] = some (.tup xs) := rfl
@[simp] theorem opD_tuplet (xs : List D) : opD .tuple [.tup xs] = some (.tup xs) := rfl
@[simp] theorem opD_minll (xs : List D) : opD .minl [.lst xs] = bestD minI minP xs := rfl
@[simp] theorem opD_minlt (xs : List D) : opD .minl [.tup xs] = bestD minI minP xs := rfl
@[simp] theorem opD_maxll (xs : List D) : opD .maxl [.lst xs] = bestD maxI maxP xs := rfl
@[simp] theorem opD_maxlt (xs : List D) : opD .maxl [.tup xs] = bestD maxI maxP xs := rfl
@[simp] theorem runMkt_l (xs : List D) : runMkt (.d (.lst xs)) M = some (.ok (.rf M.length) (M ++ [.tup xs])) := rfl
@[simp] theorem tupAt_end (xs : List D) : tupAt (.rf M.length) (M ++ [.tup xs]) = some xs := by unfold tupAt; simp
@[simp] theorem tupAt_d (x : D) : tupAt (.d x) M = none := rfl
@[simp] theorem see_end (xs : List D) : Val.see (M ++ [.tup xs]) (.rf M.length) = some (.tup xs) := by unfold Val.see; simp
@[simp] theorem hold_end (xs : List D) : Val.hold (M ++ [.tup xs]) (.rf M.length) = some (.tup xs, M ++ [.tup xs]) := by unfold Val.hold; simp
theorem fdivN (i j : Int) (h : divNk j = true) : opD .fdiv [.int i, .int j] = some (.int (i.fdiv j)) := by
  show (if divOk j then some (D.int (i / j)) else if divNk j then some (.int (i.fdiv j)) else none) = _
  by_cases q : divOk j = true
  · rw [if_pos q]
    unfold divOk at q
    simp only [Bool.and_eq_true, decide_eq_true_eq] at q
    rw [Int.fdiv_eq_ediv_of_nonneg i (by omega)]
  · rw [if_neg q, if_pos h]
end
end PyI

/-! PyI 17: the head by one run in the kernel: facts are told by a list of truths. -/
namespace PyI
open PySem PySem.Spec PyProof.Rows L2
/-- a def: where its object stands, its row -/
structure DX where
  adr : PySem.W.Frag → Addr
  name : Str
  qual : Str
  params : Arguments
  body : List Stmt
  scope : Scope
def fnX (K : PySem.W.Frag) (a : Addr) : He.FnW := match K.lookup a with
  | some ⟨_, _, .func fd, _⟩ => some (fd.name, fd.qualname, fd.params, fd.body, fd.scope, fd.globals, fd.closure, fd.builtins)
  | _ => none
def DX.val (d : DX) : He.FnW := some (d.name, d.qual, d.params, .stmts d.body, d.scope, mainGlobals, [], builtinsNs)
abbrev AlX : Type := Bool × List He.FnW
def obsX (fb : PySem.W.Frag → List Bool) (fn : List DX) (K : PySem.W.Frag) : AlX := ((fb K).all id, fn.map fun d => fnX K (d.adr K))
def valX (fn : List DX) : AlX := (true, fn.map DX.val)
def SaysX (fb : PySem.W.Frag → List Bool) (fn : List DX) (K : PySem.W.Frag) : Prop := obsX fb fn K = valX fn
def obsXG (n : Nat) (fb : PySem.W.Frag → List Bool) (fn : List DX) (g : Addr → Option Obj) : AlX := obsX fb fn (He.frG g (List.range n))
def hookX (n : Nat) (fb : PySem.W.Frag → List Bool) (fn : List DX) : PySem.W.Hook where
  α := AlX
  obs := fun s => obsXG n fb fn s.heap.get?
  val := fun _ => valX fn
  says := fun _ h => ∃ K : PySem.W.Frag, K.In h ∧ SaysX fb fn K
  of := fun _ _ e => ⟨_, He.frG_in, e⟩
  keeps := fun _ _ _ ⟨K, hK, c⟩ k => ⟨K, PySem.W.Frag.In.keeps hK k, c⟩
theorem obsXG_eq {n : Nat} {fb : PySem.W.Frag → List Bool} {fn : List DX} {g : Addr → Option Obj} {s : Shared} (h : ∀ a, g a = s.heap.get? a) : obsXG n fb fn g = (hookX n fb fn).obs s := by
  have e : g = s.heap.get? := funext h
  rw [e] <;> rfl
section
variable {fb : PySem.W.Frag → List Bool} {fn : List DX} {K : PySem.W.Frag}
theorem SaysX.fact (c : SaysX fb fn K) (i : Nat) {b : Bool} (h : (fb K)[i]? = some b) : b = true := by
  have c1 : (fb K).all id = true := congrArg (fun z : AlX => z.1) c
  have := List.all_eq_true.mp c1 b (List.mem_of_getElem? h)
  exact this
theorem SaysX.mem (c : SaysX fb fn K) {b : Bool} (h : b ∈ fb K) : b = true := by
  have c1 : (fb K).all id = true := congrArg (fun z : AlX => z.1) c
  exact List.all_eq_true.mp c1 b h
theorem SaysX.def_ (c : SaysX fb fn K) (i : Nat) {d : DX} (h : fn[i]? = some d) :
    ∃ oc od dV kV doc pm an cdv ct osl, K.lookup (d.adr K) = some ⟨oc, od, .func (PySem.W.fnOf d.name d.qual d.params d.body d.scope dV kV doc pm an cdv ct), osl⟩ := by
  have e : fn.map (fun d => fnX K (d.adr K)) = fn.map DX.val := congrArg (fun z : AlX => z.2) c
  have e2 : (fn.map fun d => fnX K (d.adr K))[i]? = (fn.map DX.val)[i]? := by rw [e]
  rw [List.getElem?_map, List.getElem?_map, h] at e2
  have e : fnX K (d.adr K) = d.val := Option.some.inj e2
  unfold fnX at e
  cases q : K.lookup (d.adr K) with
  | none => rw [q] at e; cases e
  | some o =>
    obtain ⟨oc, od, dt, osl⟩ := o
    rw [q] at e
    cases dt with
    | func fd =>
      obtain ⟨n1, n2, n3, n4, n5, n6, n7, n8, n9, n10, n11, n12, n13, n14, n15⟩ := fd
      have e2 : (some (n1, n2, n3, n4, n5, n6, n7, n15) : He.FnW) = some (d.name, d.qual, d.params, .stmts d.body, d.scope, mainGlobals, [], builtinsNs) := e
      simp only [Option.some.injEq, Prod.mk.injEq] at e2
      obtain ⟨h1, h2, h3, h4, h5, h6, h7, h8⟩ := e2
      subst h1 h2 h3 h4 h5 h6 h7 h8
      exact ⟨oc, od, n8, n9, n10, n11, n12, n13, n14, osl, rfl⟩
    | _ => cases e
end
/-! ### addresses -/
def prA (K : PySem.W.Frag) (p : Addr) (t : String) : Addr := match PySem.W.recIn K p t with
  | some (.ref f :: _) => f
  | _ => 0
def prT (K : PySem.W.Frag) (p : Addr) (t : String) : List Value := match PySem.W.recIn K p t with
  | some (_ :: r) => r
  | _ => []
def pcA (K : PySem.W.Frag) (C : Addr) (x : Str) : Addr := match PySem.W.findCls K (.ref C) (.type "type") x with
  | some (.get _ (.ref p) _ _) => p
  | _ => 0
def deA (K : PySem.W.Frag) (f : Addr) : Addr := match K.lookup f with
  | some ⟨_, _, .func fd, _⟩ => (match fd.defaults with
    | .ref T => T
    | _ => 0)
  | _ => 0
/-! ### truths -/
def clB (K : PySem.W.Frag) (C : Addr) : Bool :=
  PySem.W.plainGet K C Str.empty && (PySem.W.hasDictIn K C && (PySem.W.plainOver K C && (He.eqO (PySem.W.findIn K (.ref C) "__setattr__") (some (some (.builtin "object.__setattr__"))) &&
  (He.eqO (PySem.W.findIn K (.ref C) "__class__") (some (some (.builtin "object.__class__"))) && (He.eqO (PySem.W.specialIn K (.builtin "object.__class__") "__get__") (some (some (.builtin "getset_descriptor.__get__"))) &&
  (decide (PySem.W.takesIn K (.builtin "object.__class__") = some true) && (decide (PySem.W.mroIn K C (.type "object") = some true) && (PySem.W.isClsIn K C && (decide (PySem.W.typeIn K (.ref C) = some (.type "type")) &&
  (decide (PySem.W.subIn K (.ref C) (.ref C) = some true) &&
  (["int", "bool", "str", "tuple", "list", "dict"].all (fun t => decide (PySem.W.subIn K (.ref C) (.type t) = some false)) &&
  ["NoneType", "int", "bool", "str", "tuple", "list", "dict"].all (fun t => decide (PySem.W.subIn K (.type t) (.ref C) = some false)))))))))))))
theorem clB_ok {K : PySem.W.Frag} {C : Addr} (h : clB K C = true) : ClF K C := by
  unfold clB at h
  simp only [Bool.and_eq_true, List.all_cons, List.all_nil, decide_eq_true_eq, and_true] at h
  obtain ⟨h1, h2, h3, h4, h5, h6, h7, h8, h9, h10, h11, ⟨t1, t2, t3, t4, t5, t6⟩, u0, u1, u2, u3, u4, u5, u6⟩ := h
  exact ⟨h1, h2, h3, He.eqO_ok h4, He.eqO_ok h5, He.eqO_ok h6, h7, h8, h9, h10, h11, t1, t2, t3, t4, t5, t6, u0, u1, u2, u3, u4, u5, u6⟩
def codB (K : PySem.W.Frag) (f : Addr) (q : Str) : Bool := match K.lookup f with
  | some ⟨_, _, .func fd, _⟩ => PySem.W.codeIn K fd.code q
  | _ => false
theorem codB_ok {K : PySem.W.Frag} {f : Addr} {q : Str} {oc : Value} {od : Option Addr} {fd : FuncData} {osl : Array (Option Value)} (l : K.lookup f = some ⟨oc, od, .func fd, osl⟩) (h : codB K f q = true) : PySem.W.codeIn K fd.code q = true := by
  unfold codB at h
  rw [l] at h
  exact h
def nodB (K : PySem.W.Frag) (f : Addr) : Bool := match K.lookup f with
  | some ⟨_, _, .func fd, _⟩ => (match fd.defaults with
    | .none => true
    | _ => false)
  | _ => false
theorem nodB_ok {K : PySem.W.Frag} {f : Addr} {oc : Value} {od : Option Addr} {fd : FuncData} {osl : Array (Option Value)} (l : K.lookup f = some ⟨oc, od, .func fd, osl⟩) (h : nodB K f = true) : fd.defaults = .none := by
  unfold nodB at h
  rw [l] at h
  simp only at h
  split at h
  · assumption
  · cases h
/-- its defaults: a tuple of these -/
def dflB (K : PySem.W.Frag) (f : Addr) (vs : List V) : Bool := match K.lookup f with
  | some ⟨_, _, .func fd, _⟩ => (match fd.defaults with
    | .ref T => (match K.lookup T with
      | some ⟨_, _, .seq its _, _⟩ => He.relAll vs its.toList
      | _ => false)
    | _ => false)
  | _ => false
theorem dflB_ok {K : PySem.W.Frag} {f : Addr} {vs : List V} {oc : Value} {od : Option Addr} {fd : FuncData} {osl : Array (Option Value)} (l : K.lookup f = some ⟨oc, od, .func fd, osl⟩) (h : dflB K f vs = true) :
    ∃ T toc tod us tn tsl, fd.defaults = .ref T ∧ K.lookup T = some ⟨toc, tod, .seq (us : List Value).toArray tn, tsl⟩ ∧ Vals vs us := by
  unfold dflB at h
  rw [l] at h
  simp only at h
  split at h
  · rename_i T e
    split at h
    · rename_i toc tod its tn tsl e2
      exact ⟨T, toc, tod, its.toList, tn, tsl, e, by simpa using e2, He.relAll_ok h⟩
    · cases h
  · cases h
/-- a module's name is a tuple of these -/
def tupB (K : PySem.W.Frag) (a : Addr) (vs : List V) : Bool := match K.lookup a with
  | some ⟨.type c, _, .seq its _, _⟩ => decide (c = "tuple") && He.relAll vs its.toList
  | _ => false
theorem tupB_ok {K : PySem.W.Frag} {a : Addr} {vs : List V} (h : tupB K a vs = true) : ∃ od us n sl, K.lookup a = some ⟨.type "tuple", od, .seq (us : List Value).toArray n, sl⟩ ∧ Vals vs us := by
  unfold tupB at h
  split at h
  · rename_i c od its n sl e
    rw [Bool.and_eq_true, decide_eq_true_eq] at h
    obtain ⟨h1, h2⟩ := h
    subst h1
    exact ⟨od, its.toList, n, sl, by simpa using e, He.relAll_ok h2⟩
  · cases h
def intB (K : PySem.W.Frag) (x : Str) (i : Int) : Bool := match PySem.W.nsIn K mainGlobals x with
  | some (some (.int j _)) => decide (j = i)
  | _ => false
theorem intB_ok {K : PySem.W.Frag} {x : Str} {i : Int} (h : intB K x i = true) : ∃ t, PySem.W.nsIn K mainGlobals x = some (some (.int i t)) := by
  unfold intB at h
  split at h
  · rename_i j t e
    have := of_decide_eq_true h
    subst this
    exact ⟨t, e⟩
  · cases h
def cviB (K : PySem.W.Frag) (C : Addr) (x : Str) (i : Int) : Bool := match PySem.W.findCls K (.ref C) (.type "type") x with
  | some (.val (.int j _)) => decide (j = i)
  | _ => false
theorem cviB_ok {K : PySem.W.Frag} {C : Addr} {x : Str} {i : Int} (h : cviB K C x i = true) : ∃ t, PySem.W.findCls K (.ref C) (.type "type") x = some (.val (.int i t)) := by
  unfold cviB at h
  split at h
  · rename_i j t e
    have := of_decide_eq_true h
    subst this
    exact ⟨t, e⟩
  · cases h
def cvrB (K : PySem.W.Frag) (C : Addr) (x : Str) (f : Addr) : Bool := match PySem.W.findCls K (.ref C) (.type "type") x with
  | some (.val (.ref g)) => decide (g = f)
  | _ => false
theorem cvrB_ok {K : PySem.W.Frag} {C : Addr} {x : Str} {f : Addr} (h : cvrB K C x f = true) : PySem.W.findCls K (.ref C) (.type "type") x = some (.val (.ref f)) := by
  unfold cvrB at h
  split at h
  · rename_i j e
    have := of_decide_eq_true h
    subst this
    exact e
  · cases h
def cmeB (K : PySem.W.Frag) (C : Addr) (x : Str) (b : String) : Bool := match PySem.W.findCls K (.ref C) (.type "type") x with
  | some (.get (.builtin c) (.ref _) .none (.ref D)) => decide (c = b) && decide (D = C)
  | _ => false
theorem cmeB_ok {K : PySem.W.Frag} {C : Addr} {x : Str} {b : String} (h : cmeB K C x b = true) : PySem.W.findCls K (.ref C) (.type "type") x = some (.get (.builtin b) (.ref (pcA K C x)) .none (.ref C)) := by
  unfold cmeB at h
  split at h
  · rename_i c p D e
    rw [Bool.and_eq_true, decide_eq_true_eq, decide_eq_true_eq] at h
    obtain ⟨h1, h2⟩ := h
    subst h1 h2
    unfold pcA
    rw [e]
  · cases h
theorem vcons {v : V} {vs : List V} {us : List Value} (r : Vals (v :: vs) us) : ∃ a us', us = a :: us' ∧ L2.RelV v a ∧ Vals vs us' := by
  cases r with
  | cons h r => exact ⟨_, _, rfl, h, r⟩
theorem vnil {us : List Value} (r : Vals [] us) : us = [] := by
  cases r with
  | nil => rfl
/-! ### the end, the head's part unknown but for its facts -/
theorem walk_upE {l : PySem.W.OpenLaw} {n k : Nat} {q : Program} {loose : List Str} {XP : (Str → Option Value) → Heap → Prop} {YP : World → Heap → Prop} {d : DefRec} {x : Str} {C : Orc} {G : Fn}
    (hn : l.most = some n) (hn2 : n ≤ sizeLine) (hdf : d.params.defaults = []) (hr : Room k callerA)
    (F : ∀ (w : World) (mg : Str → Option Value) (fa : Addr) (h : Heap), YP w h → h.Ns mainGlobals mg → mg d.name = some (.ref fa) →
      ∃ K : PySem.W.Frag, K.In h ∧ ∃ fd : FuncData, (∀ (s : Shared) (u : Value), BindsTo s fd ⟨[u], []⟩ [(x, u)]) ∧ ∀ base : Heap, K.In base → base.Ns mainGlobals mg →
        ∃ S : Sta, S.K = K ∧ GoF l.prog w K mg base (L2.CX l.prog w) k fa fd [x] (fun vs H Q E => vs.length = 1 ∧ spB S C G vs H Q E))
    (hlaw : ∀ ns : List Int, ns.length ≤ n → endFn G.keep 0 (denSs C G.body (startE G.ns [.d (.frl (ns.map D.int))]) []) = some (.ok (.d (.bl true)) [])) :
    PySem.W.WalkO q loose XP YP l.row.toRowW d [] (fun f vs => PySem.call f vs) := by
  refine Att.attach_call hn hdf fun w s₀ s₁ mg mb fa o pm cd doc a vs ns GG Y ho hd hcd hmg hobj hints hlen hgn => ?_
  obtain ⟨K, KX, fd, hb, hF⟩ := F w mg fa _ Y GG.T.g hmg
  refine end_call (CT := L2.CX l.prog w) (sp := spLaw n K) KX GG.T.g GG.T.b GG.T.builtins GG.T.nolimit hgn hobj hints (Nat.le_trans hlen hn2) hr (fun base p r => ?_) hb
    (fun H _ h3 => ⟨a, ns, rfl, hlen, h3, fun _ => rfl⟩) fun H e s' z => ?_
  · obtain ⟨S, hK, h3⟩ := hF base p r
    refine h3.imp fun vs H Q E hs => ?_
    obtain ⟨a, ns, rfl, hl, hS, hQ⟩ := hs
    rw [← hK] at hS
    have rl : ∀ ns : List Int, RepL S H (ns.map D.int) (ns.map V.int) := by
      intro ns
      induction ns with
      | nil => exact repL_emp
      | cons n ns ih => exact repL_mk (rep_int (S := S) (F := H)) ih
    refine ⟨rfl, fun _ => 0, H, _, [], _, ⟨Evl.Ex.refl H, fun n c e => by simp at e, fun n m h1 => by simp at h1⟩, repVs_1 (rep_frl hS (rl ns)), hlaw ns hl, fun μ' F' H' w a m r => ?_⟩
    rw [repD_bl (S := S) (F := F') r]
    exact hQ H'
  · obtain ⟨_, _, _, _, _, _, _, _, _, _, _, _, z⟩ := z
    exact z
end PyI

/-! sums of floors: what Euclid's way of adding them gives -/
namespace FS
def S (f : Nat → Int) : Nat → Int
  | 0 => 0
  | n + 1 => S f n + f n
theorem S_congr {f g : Nat → Int} : ∀ {n : Nat}, (∀ i, i < n → f i = g i) → S f n = S g n
  | 0, _ => rfl
  | n + 1, h => by
    show S f n + f n = S g n + g n
    rw [S_congr (n := n) fun i hi => h i (by omega), h n (by omega)]
theorem S_add (f g : Nat → Int) : ∀ n : Nat, S (fun i => f i + g i) n = S f n + S g n
  | 0 => rfl
  | n + 1 => by
    show S (fun i => f i + g i) n + (f n + g n) = (S f n + f n) + (S g n + g n)
    rw [S_add f g n]
    omega
theorem S_zero : ∀ n : Nat, S (fun _ => 0) n = 0
  | 0 => rfl
  | n + 1 => by
    show S (fun _ => 0) n + 0 = 0
    rw [S_zero n]
    rfl
theorem S_swap (f : Nat → Nat → Int) (m : Nat) : ∀ n : Nat, S (fun i => S (fun j => f i j) m) n = S (fun j => S (fun i => f i j) n) m
  | 0 => by
    show 0 = S (fun _ => 0) m
    rw [S_zero]
  | n + 1 => by
    show S (fun i => S (fun j => f i j) m) n + S (fun j => f n j) m = S (fun j => S (fun i => f i j) n + f n j) m
    rw [S_swap f m n, S_add]
theorem S_first (f : Nat → Int) : ∀ n : Nat, S f (n + 1) = f 0 + S (fun i => f (i + 1)) n
  | 0 => by
    show 0 + f 0 = f 0 + 0
    omega
  | n + 1 => by
    have h := S_first f n
    show S f (n + 1) + f (n + 1) = f 0 + (S (fun i => f (i + 1)) n + f (n + 1))
    rw [h]
    omega
theorem S_rev (f : Nat → Int) : ∀ n : Nat, S f n = S (fun i => f (n - 1 - i)) n
  | 0 => rfl
  | n + 1 => by
    rw [S_first (fun i => f (n + 1 - 1 - i)) n]
    show S f n + f n = f n + S (fun i => f (n + 1 - 1 - (i + 1))) n
    have e : S (fun i => f (n + 1 - 1 - (i + 1))) n = S (fun i => f (n - 1 - i)) n := S_congr fun i hi => by
      show f (n + 1 - 1 - (i + 1)) = f (n - 1 - i)
      congr 1
      omega
    rw [e, ← S_rev f n]
    omega
/-- as many steps of m as fit -/
theorem S_steps (m v : Int) (hm : 0 < m) (hv : 0 ≤ v) : ∀ n : Nat, S (fun j => if m * ((j : Int) + 1) ≤ v then 1 else 0) n = if (n : Int) ≤ v / m then (n : Int) else v / m
  | 0 => by
    have : 0 ≤ v / m := Int.ediv_nonneg hv (by omega)
    show (0 : Int) = if ((0 : Nat) : Int) ≤ v / m then ((0 : Nat) : Int) else v / m
    rw [if_pos (by omega)]
    rfl
  | n + 1 => by
    show S (fun j => if m * ((j : Int) + 1) ≤ v then 1 else 0) n + (if m * ((n : Int) + 1) ≤ v then 1 else 0) = _
    rw [S_steps m v hm hv n]
    have k : (m * ((n : Int) + 1) ≤ v) ↔ ((n : Int) + 1 ≤ v / m) := by
      rw [Int.le_ediv_iff_mul_le hm, Int.mul_comm]
    simp only [k]
    by_cases c : (n : Int) + 1 ≤ v / m
    · rw [if_pos (by omega), if_pos c, if_pos (by omega)]
      omega
    · rw [if_neg c]
      by_cases c2 : (n : Int) ≤ v / m
      · rw [if_pos c2, if_neg (by omega)]
        omega
      · rw [if_neg c2, if_neg (by omega)]
        omega
theorem half (n : Nat) : (n : Int) * (n + 1) / 2 = (n : Int) * (n - 1) / 2 + n := by
  have e : (n : Int) * (n + 1) = (n : Int) * (n - 1) + n * 2 := by
    rw [Int.mul_add, Int.mul_sub]
    omega
  rw [e, Int.add_mul_ediv_right _ _ (by decide)]
/-- the whole multiples of m taken out -/
theorem S_lin (a b m : Int) (hm : 0 < m) : ∀ n : Nat, S (fun i => (a * i + b) / m) n = (n : Int) * (n - 1) / 2 * (a / m) + n * (b / m) + S (fun i => (a % m * i + b % m) / m) n
  | 0 => by
    simp [S]
  | n + 1 => by
    show S (fun i => (a * i + b) / m) n + (a * n + b) / m = _ + (S (fun i => (a % m * i + b % m) / m) n + (a % m * n + b % m) / m)
    rw [S_lin a b m hm n]
    have e : a * n + b = (a % m * n + b % m) + m * (a / m * n + b / m) := by
      have ea := Int.emod_add_mul_ediv a m
      have eb := Int.emod_add_mul_ediv b m
      have q : a * n = a % m * n + m * (a / m * n) := by
        conv => lhs; rw [← ea]
        rw [Int.add_mul, Int.mul_assoc]
      rw [q, Int.mul_add]
      omega
    have e2 : (a * n + b) / m = (a % m * n + b % m) / m + (a / m * n + b / m) := by
      conv => lhs; rw [e]
      rw [Int.add_mul_ediv_left _ _ (by omega)]
    rw [e2]
    have h1 : ((n + 1 : Nat) : Int) * (((n + 1 : Nat) : Int) - 1) / 2 = (n : Int) * (n - 1) / 2 + n := by
      have : ((n + 1 : Nat) : Int) * (((n + 1 : Nat) : Int) - 1) = (n : Int) * (n + 1) := by
        rw [show (((n + 1 : Nat) : Int) - 1) = n by omega, Int.mul_comm]
        congr 1
      rw [this, half]
    rw [h1, Int.add_mul]
    have h2 : ((n + 1 : Nat) : Int) * (b / m) = n * (b / m) + b / m := by
      rw [show ((n + 1 : Nat) : Int) = (n : Int) + 1 by omega, Int.add_mul]
      omega
    rw [h2, Int.mul_comm (a / m) n]
    omega
/-- counted from the other side -/
theorem S_turn (a b m : Int) (n Y : Nat) (r : Int) (hm : 0 < m) (ha : 0 < a) (hb : 0 ≤ b) (hr : 0 ≤ r) (hbm : b < m) (e : a * n + b = m * Y + r) (hrm : r < m) :
    S (fun i => (a * i + b) / m) n = S (fun j => (m * j + r) / a) Y := by
  have h1 : S (fun i => (a * i + b) / m) n = S (fun i => S (fun j => if m * ((j : Int) + 1) ≤ a * i + b then 1 else 0) Y) n := S_congr fun i hi => by
    have p : 0 ≤ a * (i : Int) := Int.mul_nonneg (by omega) (by omega)
    show _ = S (fun j => if m * ((j : Int) + 1) ≤ a * i + b then 1 else 0) Y
    rw [S_steps m (a * i + b) hm (by omega) Y]
    have q : (a * (i : Int) + b) / m ≤ Y := by
      have q1 : a * (i : Int) ≤ a * n := Int.mul_le_mul_of_nonneg_left (by omega) (by omega)
      have q2 : (a * (i : Int) + b) / m ≤ (m * Y + r) / m := Int.ediv_le_ediv hm (by omega)
      rw [Int.mul_add_ediv_left _ _ (by omega), Int.ediv_eq_zero_of_lt hr hrm] at q2
      omega
    split <;> omega
  have h2 : S (fun j => (m * j + r) / a) Y = S (fun j => S (fun i => if a * ((i : Int) + 1) ≤ m * j + r then 1 else 0) n) Y := S_congr fun j hj => by
    have p : 0 ≤ m * (j : Int) := Int.mul_nonneg (by omega) (by omega)
    show _ = S (fun i => if a * ((i : Int) + 1) ≤ m * j + r then 1 else 0) n
    rw [S_steps a (m * j + r) ha (by omega) n]
    have q : (m * (j : Int) + r) / a ≤ n := by
      have q1 : m * ((j : Int) + 1) ≤ m * Y := Int.mul_le_mul_of_nonneg_left (by omega) (by omega)
      rw [Int.mul_add, Int.mul_one] at q1
      have q2 : (m * (j : Int) + r) / a ≤ (a * n) / a := Int.ediv_le_ediv ha (by omega)
      rw [Int.mul_ediv_cancel_left _ (by omega)] at q2
      exact q2
    split <;> omega
  rw [h1, h2, S_swap, S_rev]
  refine S_congr fun j hj => ?_
  show S (fun i => if m * (((Y - 1 - j : Nat) : Int) + 1) ≤ a * i + b then (1 : Int) else 0) n = S (fun i => if a * ((i : Int) + 1) ≤ m * j + r then 1 else 0) n
  rw [S_rev]
  refine S_congr fun i hi => ?_
  show (if m * (((Y - 1 - j : Nat) : Int) + 1) ≤ a * ((n - 1 - i : Nat) : Int) + b then (1 : Int) else 0) = if a * ((i : Int) + 1) ≤ m * j + r then 1 else 0
  have e1 : m * (((Y - 1 - j : Nat) : Int) + 1) = m * Y - m * j := by
    rw [← Int.mul_sub]
    congr 1
    omega
  have e2 : a * ((n - 1 - i : Nat) : Int) = a * n - a * ((i : Int) + 1) := by
    rw [← Int.mul_sub]
    congr 1
    omega
  rw [e1, e2]
  have k : (m * (Y : Int) - m * j ≤ a * n - a * ((i : Int) + 1) + b) ↔ (a * ((i : Int) + 1) ≤ m * j + r) := by omega
  simp only [k]
end FS

namespace FS
/-- the sum of floors -/
def fsum (n a b m : Int) : Int := FS.S (fun i => (a * i + b) / m) n.toNat
theorem fsum_zero (n a b m : Int) (h : n ≤ 0) : fsum n a b m = 0 := by
  unfold fsum
  rw [show n.toNat = 0 by omega]
  rfl
theorem twice (n : Int) : 2 * (n * (n - 1) / 2) = n * (n - 1) := by
  have h : n * (n - 1) % 2 = 0 := by
    have q : n % 2 = 0 ∨ n % 2 = 1 := by omega
    rcases q with q | q
    · rw [Int.mul_emod, q]; simp
    · rw [Int.mul_emod, show (n - 1) % 2 = 0 by omega]; simp
  omega
theorem fsum_lin (n a b m : Int) (hn : 0 ≤ n) (hm : 0 < m) : 2 * fsum n a b m = n * (n - 1) * (a / m) + 2 * (n * (b / m)) + 2 * fsum n (a % m) (b % m) m := by
  have e : ((n.toNat : Nat) : Int) = n := by omega
  have l := FS.S_lin a b m hm n.toNat
  rw [e] at l
  unfold fsum
  rw [l]
  have t := twice n
  grind
theorem fsum_turn (n a b m R t : Int) (hn : 0 ≤ n) (hR : 0 ≤ R) (ha : 0 < a) (hm : 0 < m) (b0 : 0 ≤ b) (b1 : b < m) (t0 : 0 ≤ t) (t1 : t < m) (e : a * n + b = m * R + t) : fsum n a b m = fsum R m t a := by
  refine FS.S_turn a b m n.toNat R.toNat t hm ha b0 t0 b1 ?_ t1
  rw [show ((n.toNat : Nat) : Int) = n by omega, show ((R.toNat : Nat) : Int) = R by omega]
  exact e
theorem poly1 (a n b m R t q k k2 m1 t1 b1 : Int) (e : a * n + b = m * R + t) (hm : m1 + a * q = m) (ht : t1 + a * k = t) (hb : b1 + a * k2 = b) : m1 * R + t1 = a * (n - q * R - k + k2) + b1 := by
  subst hm ht hb
  grind
theorem poly2 (F D f1 f2 n R q k k2 : Int) (f : 2 * F = D + 2 * f1 - n * R + n + R) (l : 2 * f1 = R * (R - 1) * q + 2 * (R * k) + 2 * f2) :
    2 * F = (D + (R + 1) * k + (R - 1) * k2) + 2 * f2 - R * (n - q * R - k + k2) + R + (n - q * R - k + k2) := by grind
structure Inv (F n R a m b t D : Int) : Prop where
  a0 : 0 ≤ a
  a1 : a < m
  b0 : 0 ≤ b
  b1 : b < m
  t0 : 0 ≤ t
  t1 : t < m
  n0 : 0 ≤ n
  R0 : 0 ≤ R
  e : a * n + b = m * R + t
  f : 2 * F = D + 2 * fsum n a b m - n * R + n + R
theorem Inv.apos {F n R a m b t D : Int} (h : Inv F n R a m b t D) (hR : 0 < R) : 0 < a := by
  obtain ⟨a0, a1, b0, b1, t0, t1, n0, R0, e, f⟩ := h
  rcases Int.lt_or_eq_of_le a0 with q | q
  · exact q
  · exfalso
    subst q
    have : m * 1 ≤ m * R := Int.mul_le_mul_of_nonneg_left (by omega) (by omega)
    omega
theorem Inv.step {F n R a m b t D : Int} (h : Inv F n R a m b t D) (hR : 0 < R) : Inv F R (n - m / a * R - t / a + b / a) (m % a) a (t % a) (b % a) (D + (R + 1) * (t / a) + (R - 1) * (b / a)) ∧ n - m / a * R - t / a + b / a ≤ R := by
  have ha := h.apos hR
  obtain ⟨a0, a1, b0, b1, t0, t1, n0, R0, e, f⟩ := h
  have hm := Int.emod_add_mul_ediv m a
  have ht := Int.emod_add_mul_ediv t a
  have hb := Int.emod_add_mul_ediv b a
  have m0 := Int.emod_nonneg m (by omega : a ≠ 0)
  have m1 := Int.emod_lt_of_pos m ha
  have t0' := Int.emod_nonneg t (by omega : a ≠ 0)
  have t1' := Int.emod_lt_of_pos t ha
  have b0' := Int.emod_nonneg b (by omega : a ≠ 0)
  have b1' := Int.emod_lt_of_pos b ha
  have ft := fsum_turn n a b m R t n0 R0 ha (by omega) b0 b1 t0 t1 e
  have fl := fsum_lin R m t a R0 ha
  have e2 : m % a * R + t % a = a * (n - m / a * R - t / a + b / a) + b % a := poly1 a n b m R t _ _ _ _ _ _ e hm ht hb
  have p : 0 ≤ m % a * R := Int.mul_nonneg m0 R0
  have p2 : m % a * R ≤ a * R := Int.mul_le_mul_of_nonneg_right (by omega) R0
  have n1 : 0 ≤ n - m / a * R - t / a + b / a := by
    have q : a * (-1) < a * (n - m / a * R - t / a + b / a) := by omega
    have := Int.lt_of_mul_lt_mul_left q (by omega)
    omega
  have n2 : n - m / a * R - t / a + b / a ≤ R := by
    have q : a * (n - m / a * R - t / a + b / a) < a * (R + 1) := by rw [Int.mul_add a R 1]; omega
    have := Int.lt_of_mul_lt_mul_left q (by omega)
    omega
  refine ⟨⟨m0, m1, t0', t1', b0', b1', R0, n1, e2, ?_⟩, n2⟩
  rw [ft] at f
  exact poly2 F D _ _ n R _ _ _ f fl
theorem Inv.done {F n R a m b t D : Int} (h : Inv F n R a m b t D) (hR : R = 0) : 2 * F = D + n := by
  obtain ⟨a0, a1, b0, b1, t0, t1, n0, R0, e, f⟩ := h
  subst hR
  have z : fsum n a b m = 0 := by
    rcases Int.lt_or_eq_of_le a0 with q | q
    · rw [fsum_turn n a b m 0 t n0 (by omega) q (by omega) b0 b1 t0 t1 e]
      exact fsum_zero _ _ _ _ (by omega)
    · subst q
      unfold fsum
      have r : FS.S (fun i => (0 * (i : Int) + b) / m) n.toNat = FS.S (fun _ => 0) n.toNat := FS.S_congr fun i _ => by
        show (0 * (i : Int) + b) / m = 0
        rw [Int.zero_mul, Int.zero_add]
        exact Int.ediv_eq_zero_of_lt b0 b1
      rw [r, FS.S_zero]
  rw [z] at f
  omega
theorem Inv.first {n a b m : Int} (hn : 0 ≤ n) (hm : 0 < m) : Inv (fsum n a b m) n ((a % m * n + b % m) / m) (a % m) m (b % m) ((a % m * n + b % m) % m)
    (n * ((n - 1) * (a / m) + b / m + b / m) + n * ((a % m * n + b % m) / m) - n - (a % m * n + b % m) / m) ∧ (a % m * n + b % m) / m ≤ n := by
  have a0 := Int.emod_nonneg a (by omega : m ≠ 0)
  have a1 := Int.emod_lt_of_pos a hm
  have b0 := Int.emod_nonneg b (by omega : m ≠ 0)
  have b1 := Int.emod_lt_of_pos b hm
  have p : 0 ≤ a % m * n := Int.mul_nonneg a0 hn
  have e := Int.emod_add_mul_ediv (a % m * n + b % m) m
  have fl := fsum_lin n a b m hn hm
  have n1 : 0 ≤ (a % m * n + b % m) / m := Int.ediv_nonneg (by omega) (by omega)
  refine ⟨⟨a0, a1, b0, b1, Int.emod_nonneg _ (by omega), Int.emod_lt_of_pos _ hm, hn, n1, by omega, ?_⟩, ?_⟩
  · grind
  · have q : a % m * n ≤ m * n := Int.mul_le_mul_of_nonneg_right (by omega) hn
    have r : (a % m * n + b % m) / m < n + 1 := by
      refine Int.ediv_lt_of_lt_mul hm ?_
      rw [Int.add_mul, Int.one_mul, Int.mul_comm n m]
      omega
    omega
/-- sums are no greater than their rows and columns -/
theorem Inv.small {F n R a m b t D : Int} (h : Inv F n R a m b t D) : 0 ≤ fsum n a b m ∧ fsum n a b m ≤ n * R := by
  obtain ⟨a0, a1, b0, b1, t0, t1, n0, R0, e, f⟩ := h
  have key : ∀ k : Nat, (k : Int) ≤ n → 0 ≤ FS.S (fun i => (a * i + b) / m) k ∧ FS.S (fun i => (a * i + b) / m) k ≤ k * R := by
    intro k
    induction k with
    | zero => intro _; simp [FS.S]
    | succ k ih =>
      intro hk
      have ih := ih (by omega)
      have c0 : 0 ≤ a * (k : Int) := Int.mul_nonneg a0 (by omega)
      have c1 : a * (k : Int) ≤ a * n := Int.mul_le_mul_of_nonneg_left (by omega) a0
      have d0 : 0 ≤ (a * (k : Int) + b) / m := Int.ediv_nonneg (by omega) (by omega)
      have d1 : (a * (k : Int) + b) / m < R + 1 := by
        refine Int.ediv_lt_of_lt_mul (by omega) ?_
        rw [Int.add_mul, Int.one_mul, Int.mul_comm R m]
        omega
      show 0 ≤ FS.S (fun i => (a * i + b) / m) k + (a * (k : Int) + b) / m ∧ FS.S (fun i => (a * i + b) / m) k + (a * (k : Int) + b) / m ≤ ((k + 1 : Nat) : Int) * R
      have s : ((k + 1 : Nat) : Int) * R = k * R + R := by rw [show ((k + 1 : Nat) : Int) = (k : Int) + 1 by omega, Int.add_mul, Int.one_mul]
      omega
  have := key n.toNat (by omega)
  rw [show ((n.toNat : Nat) : Int) = n by omega] at this
  exact this
end FS

namespace FS
theorem S_split (f : Nat → Int) (n : Nat) : ∀ k : Nat, S f (n + k) = S f n + S (fun i => f (n + i)) k
  | 0 => by show S f n = S f n + 0; omega
  | k + 1 => by
    show S f (n + k) + f (n + k) = S f n + (S (fun i => f (n + i)) k + f (n + k))
    rw [S_split f n k]
    omega
theorem fsum_split (n k a b m : Int) (hn : 0 ≤ n) (hk : 0 ≤ k) : fsum (n + k) a b m = fsum n a b m + fsum k a (a * n + b) m := by
  unfold fsum
  rw [show (n + k).toNat = n.toNat + k.toNat by omega, S_split]
  congr 1
  refine S_congr fun i _ => ?_
  show (a * ((n.toNat + i : Nat) : Int) + b) / m = (a * (i : Int) + (a * n + b)) / m
  rw [show ((n.toNat + i : Nat) : Int) = (i : Int) + n by omega, Int.mul_add]
  congr 1
  omega
theorem fsum_a (n a b m : Int) (hn : 0 ≤ n) (hm : 0 < m) : fsum n (a + m) b m = fsum n a b m + n * (n - 1) / 2 := by
  have h1 := fsum_lin n a b m hn hm
  have h2 := fsum_lin n (a + m) b m hn hm
  have t := twice n
  rw [Int.add_emod_right, Int.add_ediv_of_dvd_right (Int.dvd_refl m), Int.ediv_self (by omega), Int.mul_add] at h2
  omega
theorem fsum_b (n a b m k : Int) (hn : 0 ≤ n) (hm : 0 < m) : fsum n a (b + m * k) m = fsum n a b m + n * k := by
  have h1 := fsum_lin n a b m hn hm
  have h2 := fsum_lin n a (b + m * k) m hn hm
  rw [Int.add_mul_emod_self_left, Int.add_mul_ediv_left _ _ (by omega), Int.mul_add] at h2
  omega
theorem fsum_one (a b m : Int) : fsum 1 a b m = b / m := by
  show 0 + (a * ((0 : Nat) : Int) + b) / m = b / m
  simp
/-- over a period -/
theorem fsum_period (k : Nat) : ∀ p m : Int, 0 < p → 0 < m → m.natAbs ≤ k → 2 * fsum m p 0 m = (p - 1) * (m - 1) + Int.gcd p m - 1 := by
  induction k with
  | zero => intro p m hp hm hk; omega
  | succ k ih =>
    intro p m hp hm hk
    have l := fsum_lin m p 0 m (by omega) hm
    have e := Int.emod_add_mul_ediv p m
    have r0 := Int.emod_nonneg p (by omega : m ≠ 0)
    have r1 := Int.emod_lt_of_pos p hm
    rw [Int.zero_ediv, Int.zero_emod] at l
    have g : Int.gcd p m = Int.gcd m (p % m) := by
      rw [Int.gcd_comm m (p % m), Int.emod_def, Int.gcd_sub_mul_left_left]
    rw [g]
    rcases Int.lt_or_eq_of_le r0 with q | q
    · rw [fsum_turn m (p % m) 0 m (p % m) 0 (by omega) (by omega) q hm (by omega) hm (by omega) hm (by rw [Int.mul_comm]), ih m (p % m) hm q (by omega)] at l
      generalize p % m = r at *
      generalize p / m = d at *
      generalize (Int.gcd m r : Int) = gg at *
      generalize fsum m p 0 m = X at *
      clear g ih
      subst e
      grind
    · rw [← q] at l e ⊢
      have z : fsum m 0 0 m = 0 := by
        unfold fsum
        have r : FS.S (fun i => (0 * (i : Int) + 0) / m) m.toNat = FS.S (fun _ => 0) m.toNat := FS.S_congr fun i _ => by
          show (0 * (i : Int) + 0) / m = 0
          simp
        rw [r, FS.S_zero]
      rw [z] at l
      rw [Int.gcd_zero_right, Int.natAbs_of_nonneg (by omega)]
      generalize p / m = d at *
      generalize fsum m p 0 m = X at *
      clear g ih q r0 r1 z
      have e2 : p = m * d := by omega
      clear e
      subst e2
      grind
end FS

/-! floor sums as the program adds them -/
namespace PyI
open PySem FS
def bSum : ISs := (.cons (.set (.nm 4) (.op .fdiv (.cons (.var 2) (.cons (.var 3) .nil)))) (.cons (.set (.nm 5) (.op .mul (.cons (.var 0) (.cons (.op .add (.cons (.op .add (.cons (.op .mul (.cons (.op .sub (.cons (.var 0) (.cons (.cst (.int (1))) .nil))) (.cons (.op .fdiv (.cons (.var 1) (.cons (.var 3) .nil))) .nil))) (.cons (.var 4) .nil))) (.cons (.var 4) .nil))) .nil)))) (.cons (.par [1, 2] (.cons (.op .mod (.cons (.var 1) (.cons (.var 3) .nil))) (.cons (.op .mod (.cons (.var 2) (.cons (.var 3) .nil))) .nil))) (.cons (.set (.nm 6) (.op .add (.cons (.op .mul (.cons (.var 1) (.cons (.var 0) .nil))) (.cons (.var 2) .nil)))) (.cons (.par [7, 8] (.cons (.op .fdiv (.cons (.var 6) (.cons (.var 3) .nil))) (.cons (.op .mod (.cons (.var 6) (.cons (.var 3) .nil))) .nil))) (.cons (.set (.nm 5) (.op .sub (.cons (.op .sub (.cons (.op .add (.cons (.var 5) (.cons (.op .mul (.cons (.var 0) (.cons (.var 7) .nil))) .nil))) (.cons (.var 0) .nil))) (.cons (.var 7) .nil)))) (.cons (.whl (.op .gt (.cons (.var 7) (.cons (.cst (.int (0))) .nil))) (.cons (.set (.nm 0) (.op .sub (.cons (.var 0) (.cons (.op .mul (.cons (.op .fdiv (.cons (.var 3) (.cons (.var 1) .nil))) (.cons (.var 7) .nil))) .nil)))) (.cons (.ife (.op .ge (.cons (.var 8) (.cons (.var 1) .nil))) (.cons (.set (.nm 4) (.op .fdiv (.cons (.var 8) (.cons (.var 1) .nil)))) (.cons (.set (.nm 8) (.op .mod (.cons (.var 8) (.cons (.var 1) .nil)))) (.cons (.set (.nm 0) (.op .sub (.cons (.var 0) (.cons (.var 4) .nil)))) (.cons (.set (.nm 5) (.op .add (.cons (.var 5) (.cons (.op .mul (.cons (.op .add (.cons (.var 7) (.cons (.cst (.int (1))) .nil))) (.cons (.var 4) .nil))) .nil)))) .nil)))) .nil) (.cons (.ife (.op .ge (.cons (.var 2) (.cons (.var 1) .nil))) (.cons (.set (.nm 4) (.op .fdiv (.cons (.var 2) (.cons (.var 1) .nil)))) (.cons (.set (.nm 2) (.op .mod (.cons (.var 2) (.cons (.var 1) .nil)))) (.cons (.set (.nm 0) (.op .add (.cons (.var 0) (.cons (.var 4) .nil)))) (.cons (.set (.nm 5) (.op .add (.cons (.var 5) (.cons (.op .mul (.cons (.op .sub (.cons (.var 7) (.cons (.cst (.int (1))) .nil))) (.cons (.var 4) .nil))) .nil)))) .nil)))) .nil) (.cons (.set (.nm 3) (.op .mod (.cons (.var 3) (.cons (.var 1) .nil)))) (.cons (.ife (.op .eq (.cons (.var 0) (.cons (.cst (.int (0))) .nil))) (.cons (.ret (.op .fdiv (.cons (.op .add (.cons (.var 5) (.cons (.var 7) .nil))) (.cons (.cst (.int (2))) .nil)))) .nil) .nil) (.cons (.set (.nm 7) (.op .sub (.cons (.var 7) (.cons (.op .mul (.cons (.op .fdiv (.cons (.var 1) (.cons (.var 3) .nil))) (.cons (.var 0) .nil))) .nil)))) (.cons (.ife (.op .ge (.cons (.var 2) (.cons (.var 3) .nil))) (.cons (.set (.nm 4) (.op .fdiv (.cons (.var 2) (.cons (.var 3) .nil)))) (.cons (.set (.nm 2) (.op .mod (.cons (.var 2) (.cons (.var 3) .nil)))) (.cons (.set (.nm 7) (.op .sub (.cons (.var 7) (.cons (.var 4) .nil)))) (.cons (.set (.nm 5) (.op .add (.cons (.var 5) (.cons (.op .mul (.cons (.op .add (.cons (.var 0) (.cons (.cst (.int (1))) .nil))) (.cons (.var 4) .nil))) .nil)))) .nil)))) .nil) (.cons (.ife (.op .ge (.cons (.var 8) (.cons (.var 3) .nil))) (.cons (.set (.nm 4) (.op .fdiv (.cons (.var 8) (.cons (.var 3) .nil)))) (.cons (.set (.nm 8) (.op .mod (.cons (.var 8) (.cons (.var 3) .nil)))) (.cons (.set (.nm 7) (.op .add (.cons (.var 7) (.cons (.var 4) .nil)))) (.cons (.set (.nm 5) (.op .add (.cons (.var 5) (.cons (.op .mul (.cons (.op .sub (.cons (.var 0) (.cons (.cst (.int (1))) .nil))) (.cons (.var 4) .nil))) .nil)))) .nil)))) .nil) (.cons (.set (.nm 1) (.op .mod (.cons (.var 1) (.cons (.var 3) .nil)))) .nil)))))))))) (.cons (.ret (.op .fdiv (.cons (.op .add (.cons (.var 5) (.cons (.var 0) .nil))) (.cons (.cst (.int (2))) .nil)))) .nil))))))))
def fSum : Fn := { np := 4, star := false, ns := 9, body := bSum, keep := false }
def wS : IS := hdS (tlS (tlS (tlS (tlS (tlS (tlS bSum))))))
def wB : ISs := bodyOf wS
abbrev iv (i : Int) : Option Val := some (.d (.int i))
section
variable {C : Orc} {M : Mem}
theorem st0 (n a b m D R t : Int) (v tp : Option Val) (ha : 0 < a) (sa : Sm 1000 a) (sm : Sm 1000 m) (sR : Sm 1000 R) : denS C (hdS wB) [iv n, iv a, iv b, iv m, v, iv D, tp, iv R, iv t] M = some (.nx [iv (n - m / a * R), iv a, iv b, iv m, v, iv D, tp, iv R, iv t] M) := by
  have d := divOk_of ha sa (by decide)
  have m1 := opD_mulB (i := m / a) (j := R) (sm.div a) sR (by decide) (by decide)
  simp [wB, wS, bSum, hdS, tlS, bodyOf, fdivO _ _ d, m1]
theorem st1 (n a b m D R t : Int) (v tp : Option Val) (ha : 0 < a) (sa : Sm 1000 a) (t0 : 0 ≤ t) (st : Sm 1000 t) (sR : Sm 1000 R) : ∃ v', denS C (hdS (tlS wB)) [iv n, iv a, iv b, iv m, v, iv D, tp, iv R, iv t] M = some (.nx [iv (n - t / a), iv a, iv b, iv m, v', iv (D + (R + 1) * (t / a)), tp, iv R, iv (t % a)] M) := by
  have d := divOk_of ha sa (by decide)
  by_cases q : a ≤ t
  · have m1 := opD_mulB (i := R + 1) (j := t / a) (sR.add (j := 1) (by unfold Sm; decide)) (st.div a) (by decide) (by decide)
    exact ⟨iv (t / a), by simp [wB, wS, bSum, hdS, tlS, bodyOf, fdivO _ _ d, m1, q, opD_modP _ _ ha]⟩
  · have e1 : t / a = 0 := Int.ediv_eq_zero_of_lt t0 (by omega)
    have e2 : t % a = t := Int.emod_eq_of_lt t0 (by omega)
    exact ⟨v, by simp [wB, wS, bSum, hdS, tlS, bodyOf, q, e1, e2]⟩
theorem st2 (n a b m D R t : Int) (v tp : Option Val) (ha : 0 < a) (sa : Sm 1000 a) (t0 : 0 ≤ b) (st : Sm 1000 b) (sR : Sm 1000 R) (R0 : 0 ≤ R) : ∃ v', denS C (hdS (tlS (tlS wB))) [iv n, iv a, iv b, iv m, v, iv D, tp, iv R, iv t] M = some (.nx [iv (n + b / a), iv a, iv (b % a), iv m, v', iv (D + (R - 1) * (b / a)), tp, iv R, iv t] M) := by
  have d := divOk_of ha sa (by decide)
  by_cases q : a ≤ b
  · have m1 := opD_mulB (i := R - 1) (j := b / a) (sR.pred R0) (st.div a) (by decide) (by decide)
    exact ⟨iv (b / a), by simp [wB, wS, bSum, hdS, tlS, bodyOf, fdivO _ _ d, m1, q, opD_modP _ _ ha]⟩
  · have e1 : b / a = 0 := Int.ediv_eq_zero_of_lt t0 (by omega)
    have e2 : b % a = b := Int.emod_eq_of_lt t0 (by omega)
    exact ⟨v, by simp [wB, wS, bSum, hdS, tlS, bodyOf, q, e1, e2]⟩
theorem st3 (n a b m D R t : Int) (v tp : Option Val) (ha : 0 < a) : denS C (hdS (tlS (tlS (tlS wB)))) [iv n, iv a, iv b, iv m, v, iv D, tp, iv R, iv t] M = some (.nx [iv n, iv a, iv b, iv (m % a), v, iv D, tp, iv R, iv t] M) := by
  simp [wB, wS, bSum, hdS, tlS, bodyOf, opD_modP _ _ ha]
theorem st5 (n a b m D R t : Int) (v tp : Option Val) (ha : 0 < m) (sa : Sm 1000 a) (sm : Sm 1000 m) (sR : Sm 1000 n) : denS C (hdS (tlS (tlS (tlS (tlS (tlS wB)))))) [iv n, iv a, iv b, iv m, v, iv D, tp, iv R, iv t] M = some (.nx [iv n, iv a, iv b, iv m, v, iv D, tp, iv (R - a / m * n), iv t] M) := by
  have d := divOk_of ha sm (by decide)
  have m1 := opD_mulB (i := a / m) (j := n) (sa.div m) sR (by decide) (by decide)
  simp [wB, wS, bSum, hdS, tlS, bodyOf, fdivO _ _ d, m1]
theorem st6 (n a b m D R t : Int) (v tp : Option Val) (ha : 0 < m) (sa : Sm 1000 m) (t0 : 0 ≤ b) (st : Sm 1000 b) (sR : Sm 1000 n) : ∃ v', denS C (hdS (tlS (tlS (tlS (tlS (tlS (tlS wB))))))) [iv n, iv a, iv b, iv m, v, iv D, tp, iv R, iv t] M = some (.nx [iv n, iv a, iv (b % m), iv m, v', iv (D + (n + 1) * (b / m)), tp, iv (R - b / m), iv t] M) := by
  have d := divOk_of ha sa (by decide)
  by_cases q : m ≤ b
  · have m1 := opD_mulB (i := n + 1) (j := b / m) (sR.add (j := 1) (by unfold Sm; decide)) (st.div m) (by decide) (by decide)
    exact ⟨iv (b / m), by simp [wB, wS, bSum, hdS, tlS, bodyOf, fdivO _ _ d, m1, q, opD_modP _ _ ha]⟩
  · have e1 : b / m = 0 := Int.ediv_eq_zero_of_lt t0 (by omega)
    have e2 : b % m = b := Int.emod_eq_of_lt t0 (by omega)
    exact ⟨v, by simp [wB, wS, bSum, hdS, tlS, bodyOf, q, e1, e2]⟩
theorem st7 (n a b m D R t : Int) (v tp : Option Val) (ha : 0 < m) (sa : Sm 1000 m) (t0 : 0 ≤ t) (st : Sm 1000 t) (sR : Sm 1000 n) (R0 : 0 ≤ n) : ∃ v', denS C (hdS (tlS (tlS (tlS (tlS (tlS (tlS (tlS wB)))))))) [iv n, iv a, iv b, iv m, v, iv D, tp, iv R, iv t] M = some (.nx [iv n, iv a, iv b, iv m, v', iv (D + (n - 1) * (t / m)), tp, iv (R + t / m), iv (t % m)] M) := by
  have d := divOk_of ha sa (by decide)
  by_cases q : m ≤ t
  · have m1 := opD_mulB (i := n - 1) (j := t / m) (sR.pred R0) (st.div m) (by decide) (by decide)
    exact ⟨iv (t / m), by simp [wB, wS, bSum, hdS, tlS, bodyOf, fdivO _ _ d, m1, q, opD_modP _ _ ha]⟩
  · have e1 : t / m = 0 := Int.ediv_eq_zero_of_lt t0 (by omega)
    have e2 : t % m = t := Int.emod_eq_of_lt t0 (by omega)
    exact ⟨v, by simp [wB, wS, bSum, hdS, tlS, bodyOf, q, e1, e2]⟩
theorem st8 (n a b m D R t : Int) (v tp : Option Val) (ha : 0 < m) : denS C (hdS (tlS (tlS (tlS (tlS (tlS (tlS (tlS (tlS wB))))))))) [iv n, iv a, iv b, iv m, v, iv D, tp, iv R, iv t] M = some (.nx [iv n, iv (a % m), iv b, iv m, v, iv D, tp, iv R, iv t] M) := by
  simp [wB, wS, bSum, hdS, tlS, bodyOf, opD_modP _ _ ha]
theorem st4 (n a b m D R t : Int) (v tp : Option Val) : denS C (hdS (tlS (tlS (tlS (tlS wB))))) [iv n, iv a, iv b, iv m, v, iv D, tp, iv R, iv t] M = if n = 0 then some (.rt (.d (.int ((D + R) / 2))) M) else some (.nx [iv n, iv a, iv b, iv m, v, iv D, tp, iv R, iv t] M) := by
  by_cases q : n = 0
  · rw [if_pos q]
    simp [wB, wS, bSum, hdS, tlS, bodyOf, q, fdivO _ 2 (by decide)]
  · rw [if_neg q]
    simp [wB, wS, bSum, hdS, tlS, bodyOf, q]
theorem wB_eq : wB = .cons (hdS wB) (.cons (hdS (tlS wB)) (.cons (hdS (tlS (tlS wB))) (.cons (hdS (tlS (tlS (tlS wB)))) (.cons (hdS (tlS (tlS (tlS (tlS wB))))) (.cons (hdS (tlS (tlS (tlS (tlS (tlS wB)))))) (.cons (hdS (tlS (tlS (tlS (tlS (tlS (tlS wB))))))) (.cons (hdS (tlS (tlS (tlS (tlS (tlS (tlS (tlS wB)))))))) (.cons (hdS (tlS (tlS (tlS (tlS (tlS (tlS (tlS (tlS wB))))))))) .nil)))))))) := rfl
/-- one turn of the loop -/
theorem wS_turn {F n R a m b t D : Int} (h : Inv F n R a m b t D) (hR : 0 < R) (v tp : Option Val) (sn : Sm 1000 R) (sm : Sm 1000 m) :
    denSs C wB [iv n, iv a, iv b, iv m, v, iv D, tp, iv R, iv t] M = some (.rt (.d (.int F)) M) ∨
    ∃ n' R' a' m' b' t' D' v', Inv F n' R' a' m' b' t' D' ∧ n' ≤ R ∧ R' ≤ n' ∧ m' < m ∧ a' < a ∧ denSs C wB [iv n, iv a, iv b, iv m, v, iv D, tp, iv R, iv t] M = some (.nx [iv n', iv a', iv b', iv m', v', iv D', tp, iv R', iv t'] M) := by
  have ha := h.apos hR
  have sa : Sm 1000 a := by have := h.a1; unfold Sm at *; omega
  have st : Sm 1000 t := by have := h.t1; have := h.t0; unfold Sm at *; omega
  have sb : Sm 1000 b := by have := h.b1; have := h.b0; unfold Sm at *; omega
  obtain ⟨h2, l2⟩ := h.step hR
  obtain ⟨n3, hn3⟩ : ∃ n3, n3 = n - m / a * R - t / a + b / a := ⟨_, rfl⟩
  obtain ⟨D3, hD3⟩ : ∃ D3, D3 = D + (R + 1) * (t / a) + (R - 1) * (b / a) := ⟨_, rfl⟩
  obtain ⟨v1, e1⟩ := st1 (C := C) (M := M) (n - m / a * R) a b m D R t v tp ha sa h.t0 st sn
  obtain ⟨v2, e2⟩ := st2 (C := C) (M := M) (n - m / a * R - t / a) a b m (D + (R + 1) * (t / a)) R (t % a) v1 tp ha sa h.b0 sb sn h.R0
  rw [← hn3] at h2 l2 e2
  rw [← hD3] at h2 e2
  rw [wB_eq, stp (st0 n a b m D R t v tp ha sa sm sn), stp e1, stp e2, stp (st3 n3 a (b % a) m D3 R (t % a) v2 tp ha)]
  by_cases z : n3 = 0
  · refine .inl ?_
    rw [eSs_cons, st4, if_pos z]
    have := h2.done z
    have : (D3 + R) / 2 = F := by omega
    rw [this]
    rfl
  · refine .inr ?_
    have e4 := st4 (C := C) (M := M) n3 a (b % a) (m % a) D3 R (t % a) v2 tp
    rw [if_neg z] at e4
    have n0 := h2.R0
    have hm := h2.apos (by omega)
    have sn3 : Sm 1000 n3 := by unfold Sm at *; omega
    have sm3 : Sm 1000 (m % a) := by have := h2.a1; unfold Sm at *; omega
    have sb3 : Sm 1000 (b % a) := by have := h2.t1; have := h2.t0; unfold Sm at *; omega
    have st3 : Sm 1000 (t % a) := by have := h2.b1; have := h2.b0; unfold Sm at *; omega
    obtain ⟨h4, l4⟩ := h2.step (by omega)
    obtain ⟨v6, e6⟩ := st6 (C := C) (M := M) n3 a (b % a) (m % a) D3 (R - a / (m % a) * n3) (t % a) v2 tp hm sm3 h2.t0 sb3 sn3
    obtain ⟨v7, e7⟩ := st7 (C := C) (M := M) n3 a (b % a % (m % a)) (m % a) (D3 + (n3 + 1) * (b % a / (m % a))) (R - a / (m % a) * n3 - b % a / (m % a)) (t % a) v6 tp hm sm3 h2.b0 st3 sn3 n0
    refine ⟨_, _, _, _, _, _, _, v7, h4, l2, l4, Int.lt_trans h2.a1 h.a1, Int.lt_trans h4.a1 h2.a1, ?_⟩
    · rw [stp e4, stp (st5 n3 a (b % a) (m % a) D3 R (t % a) v2 tp hm sa sm3 sn3), stp e6, stp e7, stp (st8 _ _ _ _ _ _ _ _ _ hm), eSs_nil]
theorem wS_loop (k : Nat) : ∀ {F n R a m b t D : Int}, Inv F n R a m b t D → a.natAbs ≤ k → Sm 1000 R → Sm 1000 m → ∀ v tp : Option Val,
    whl (denB C (condOf wS)) (denSs C wB) [iv n, iv a, iv b, iv m, v, iv D, tp, iv R, iv t] M = some (.rt (.d (.int F)) M) ∨
    ∃ n' v1 v2 v3 v4 D' v6 v7 v8, (D' + n') / 2 = F ∧ whl (denB C (condOf wS)) (denSs C wB) [iv n, iv a, iv b, iv m, v, iv D, tp, iv R, iv t] M = some (.nx [iv n', v1, v2, v3, v4, iv D', v6, v7, v8] M) := by
  induction k with
  | zero =>
    intro F n R a m b t D h hk sn sm v tp
    by_cases hR : 0 < R
    · have := h.apos hR
      omega
    · have R0 := h.R0
      have := h.done (by omega)
      refine .inr ⟨n, iv a, iv b, iv m, v, D, tp, iv R, iv t, by omega, ?_⟩
      rw [whl_eq]
      simp [wS, bSum, hdS, tlS, condOf, hR]
  | succ k ih =>
    intro F n R a m b t D h hk sn sm v tp
    by_cases hR : 0 < R
    · rcases wS_turn (C := C) (M := M) h hR v tp sn sm with e | ⟨n', R', a', m', b', t', D', v', h', l1, l2, l3, l4, e⟩
      · refine .inl ?_
        have c : denB C (condOf wS) [iv n, iv a, iv b, iv m, v, iv D, tp, iv R, iv t] M = some (.ok true M) := by simp [wS, bSum, hdS, tlS, condOf, hR]
        rw [whl_eq, c, bndS_ok, e]
        rfl
      · have a0 := h'.a0
        have R0' := h'.R0
        have n0' := h'.n0
        have m0' := h'.a1
        have q := ih h' (by have := h.a0; omega) (by unfold Sm at *; omega) (by unfold Sm at *; omega) v' tp
        have u : whl (denB C (condOf wS)) (denSs C wB) [iv n, iv a, iv b, iv m, v, iv D, tp, iv R, iv t] M = whl (denB C (condOf wS)) (denSs C wB) [iv n', iv a', iv b', iv m', v', iv D', tp, iv R', iv t'] M := by
          conv => lhs; rw [whl_eq]
          have c : denB C (condOf wS) [iv n, iv a, iv b, iv m, v, iv D, tp, iv R, iv t] M = some (.ok true M) := by simp [wS, bSum, hdS, tlS, condOf, hR]
          rw [c, bndS_ok, e]
          rfl
        rw [u]
        exact q
    · have R0 := h.R0
      have := h.done (by omega)
      refine .inr ⟨n, iv a, iv b, iv m, v, D, tp, iv R, iv t, by omega, ?_⟩
      rw [whl_eq]
      simp [wS, bSum, hdS, tlS, condOf, hR]
end
theorem Sm.neg {k : Nat} {i : Int} (h : Sm k i) : Sm k (-i) := by
  unfold Sm at *
  omega
theorem Sm.sub {k : Nat} {i j : Int} (h : Sm k i) (h2 : Sm k j) : Sm (k + 1) (i - j) := by
  unfold Sm at *
  rw [Nat.pow_succ]
  omega
theorem sum_ok {T : Tab} {f : Nat} (hT : T f = some fSum) (l : Nat) (n a b m : Int) (M : Mem) (hn : 0 ≤ n) (hm : 1 ≤ m) (sn : Sm 900 n) (sa : Sm 900 a) (sb : Sm 900 b) (sm : Sm 900 m) : callD T (l + 1) f [.d (.int n), .d (.int a), .d (.int b), .d (.int m)] M = some (.ok (.d (.int (fsum n a b m))) M) := by
  rw [call_eq hT rfl l _ M rfl]
  obtain ⟨h, hl⟩ := Inv.first (n := n) (a := a) (b := b) (m := m) hn (by omega)
  have R0 := h.R0
  have sR : Sm 1000 ((a % m * n + b % m) / m) := (show Sm 900 _ by unfold Sm at *; omega).le (by decide)
  have d := divOk_of (by omega : 0 < m) sm (by decide)
  have sx : Sm 1803 ((n - 1) * (a / m) + b / m + b / m) := (((sn.pred hn).mul (sa.div m)).add ((sb.div m).le (by decide))).add ((sb.div m).le (by decide))
  have m0 := opD_mulB (i := n - 1) (j := a / m) (sn.pred hn) (sa.div m) (by decide) (by decide)
  have m1 := opD_mulB (i := n) (j := (n - 1) * (a / m) + b / m + b / m) sn sx (by decide) (by decide)
  have m2 := opD_mulB (i := a % m) (j := n) (sm.mod a (by omega)) sn (by decide) (by decide)
  have m3 := opD_mulB (i := n) (j := (a % m * n + b % m) / m) sn sR (by decide) (by decide)
  have lp := wS_loop (C := callD T l) (M := M) (a % m).natAbs h (Nat.le_refl _) sR (sm.le (by decide)) (iv (b / m)) (iv (a % m * n + b % m))
  show endFn false M.length (denSs (callD T l) (.cons (hdS bSum) (.cons (hdS (tlS bSum)) (.cons (hdS (tlS (tlS bSum))) (.cons (hdS (tlS (tlS (tlS bSum)))) (.cons (hdS (tlS (tlS (tlS (tlS bSum))))) (.cons (hdS (tlS (tlS (tlS (tlS (tlS bSum)))))) (.cons (.whl (condOf wS) wB) (tlS (tlS (tlS (tlS (tlS (tlS (tlS bSum)))))))))))))) [iv n, iv a, iv b, iv m, none, none, none, none, none] M) = _
  rw [stp (env1 := [iv n, iv a, iv b, iv m, iv (b / m), none, none, none, none]) (M1 := M) (by simp [bSum, hdS, fdivO _ _ d]),
    stp (env1 := [iv n, iv a, iv b, iv m, iv (b / m), iv (n * ((n - 1) * (a / m) + b / m + b / m)), none, none, none]) (M1 := M) (by simp [bSum, hdS, tlS, fdivO _ _ d, m0, m1]),
    stp (env1 := [iv n, iv (a % m), iv (b % m), iv m, iv (b / m), iv (n * ((n - 1) * (a / m) + b / m + b / m)), none, none, none]) (M1 := M) (by simp [bSum, hdS, tlS, opD_modP _ m (by omega), parSet]),
    stp (env1 := [iv n, iv (a % m), iv (b % m), iv m, iv (b / m), iv (n * ((n - 1) * (a / m) + b / m + b / m)), iv (a % m * n + b % m), none, none]) (M1 := M) (by simp [bSum, hdS, tlS, m2]),
    stp (env1 := [iv n, iv (a % m), iv (b % m), iv m, iv (b / m), iv (n * ((n - 1) * (a / m) + b / m + b / m)), iv (a % m * n + b % m), iv ((a % m * n + b % m) / m), iv ((a % m * n + b % m) % m)]) (M1 := M) (by simp [bSum, hdS, tlS, fdivO _ _ d, opD_modP _ m (by omega), parSet]),
    stp (env1 := [iv n, iv (a % m), iv (b % m), iv m, iv (b / m), iv (n * ((n - 1) * (a / m) + b / m + b / m) + n * ((a % m * n + b % m) / m) - n - (a % m * n + b % m) / m), iv (a % m * n + b % m), iv ((a % m * n + b % m) / m), iv ((a % m * n + b % m) % m)]) (M1 := M) (by simp [bSum, hdS, tlS, m3]),
    eSs_cons, eS_whl]
  rcases lp with e | ⟨n', v1, v2, v3, v4, D', v6, v7, v8, hD, e⟩
  · rw [e]
    simp
  · rw [e]
    simp [bSum, tlS, fdivO _ 2 (by decide), hD]
end PyI

/-! the algebra of six numbers -/
namespace KK
open PySem PyI
structure Six where
  (a b c d e f : Int)
  deriving DecidableEq
theorem Six.ext' {x y : Six} (h1 : x.a = y.a) (h2 : x.b = y.b) (h3 : x.c = y.c) (h4 : x.d = y.d) (h5 : x.e = y.e) (h6 : x.f = y.f) : x = y := by
  cases x; cases y
  simp only at h1 h2 h3 h4 h5 h6
  subst h1 h2 h3 h4 h5 h6
  rfl
def Six.tup (s : Six) : D := .tup [.int s.a, .int s.b, .int s.c, .int s.d, .int s.e, .int s.f]
def Six.det (s : Six) : Int := s.a * s.d - s.b * s.c
def id6 : Six := ⟨1, 0, 0, 1, 0, 0⟩
def comp (x y : Six) : Six := ⟨y.a * x.a + y.b * x.c, y.a * x.b + y.b * x.d, y.c * x.a + y.d * x.c, y.c * x.b + y.d * x.d, y.a * x.e + y.b * x.f + y.e, y.c * x.e + y.d * x.f + y.f⟩
def inv6 (x : Six) : Six := ⟨x.det * x.d, -x.det * x.b, -x.det * x.c, x.det * x.a, -(x.det * x.d) * x.e - -x.det * x.b * x.f, -(-x.det * x.c) * x.e - x.det * x.a * x.f⟩
theorem comp_assoc (x y z : Six) : comp (comp x y) z = comp x (comp y z) := by
  apply Six.ext' <;> simp only [comp] <;> grind
theorem comp_id (x : Six) : comp x id6 = x := by
  apply Six.ext' <;> simp [comp, id6]
theorem id_comp (x : Six) : comp id6 x = x := by
  apply Six.ext' <;> simp [comp, id6]
theorem det_comp (x y : Six) : (comp x y).det = x.det * y.det := by
  simp only [comp, Six.det]; grind
theorem det_sq {x : Six} (h : x.det = 1 ∨ x.det = -1) : x.det * x.det = 1 := by
  rcases h with h | h <;> rw [h] <;> rfl
theorem comp_inv {x : Six} (h : x.det = 1 ∨ x.det = -1) : comp x (inv6 x) = id6 := by
  have h2 := det_sq h
  have e : x.det = x.a * x.d - x.b * x.c := rfl
  apply Six.ext' <;> simp only [comp, inv6, id6] <;> grind
theorem inv_comp {x : Six} (h : x.det = 1 ∨ x.det = -1) : comp (inv6 x) x = id6 := by
  have h2 := det_sq h
  have e : x.det = x.a * x.d - x.b * x.c := rfl
  apply Six.ext' <;> simp only [comp, inv6, id6] <;> grind
theorem det_inv {x : Six} (h : x.det = 1 ∨ x.det = -1) : (inv6 x).det = x.det := by
  have e : x.det = x.a * x.d - x.b * x.c := rfl
  have h2 := det_sq h
  simp only [inv6, Six.det] at *
  grind
theorem unit_mul {a b : Int} (h1 : a = 1 ∨ a = -1) (h2 : b = 1 ∨ b = -1) : a * b = 1 ∨ a * b = -1 := by
  rcases h1 with rfl | rfl <;> rcases h2 with rfl | rfl <;> decide
/-- powers -/
def pow6 (x : Six) : Nat → Six
  | 0 => id6
  | n + 1 => comp (pow6 x n) x
theorem pow_add (x : Six) (m n : Nat) : pow6 x (m + n) = comp (pow6 x m) (pow6 x n) := by
  induction n with
  | zero => exact (comp_id _).symm
  | succ n ih =>
    show comp (pow6 x (m + n)) x = comp (pow6 x m) (comp (pow6 x n) x)
    rw [ih, comp_assoc]
theorem pow_conj {c x : Six} (h : c.det = 1 ∨ c.det = -1) (n : Nat) : pow6 (comp (comp c x) (inv6 c)) n = comp (comp c (pow6 x n)) (inv6 c) := by
  induction n with
  | zero => show id6 = comp (comp c id6) (inv6 c); rw [comp_id, comp_inv h]
  | succ n ih =>
    show comp (pow6 (comp (comp c x) (inv6 c)) n) (comp (comp c x) (inv6 c)) = comp (comp c (comp (pow6 x n) x)) (inv6 c)
    rw [ih]
    have e : comp (comp (comp c (pow6 x n)) (inv6 c)) (comp (comp c x) (inv6 c)) = comp (comp c (pow6 x n)) (comp (comp (inv6 c) c) (comp x (inv6 c))) := by
      simp only [comp_assoc]
    rw [e, inv_comp h, id_comp]
    simp only [comp_assoc]
theorem conj_id {c x : Six} (h : c.det = 1 ∨ c.det = -1) : comp (comp c x) (inv6 c) = id6 ↔ x = id6 := by
  constructor
  · intro e
    have e2 : comp (comp (inv6 c) (comp (comp c x) (inv6 c))) c = x := by
      have : comp (comp (inv6 c) (comp (comp c x) (inv6 c))) c = comp (comp (inv6 c) c) (comp x (comp (inv6 c) c)) := by simp only [comp_assoc]
      rw [this, inv_comp h, id_comp, comp_id]
    rw [← e2, e, comp_id, inv_comp h]
  · intro e
    rw [e, comp_id, comp_inv h]
/-- the first turn, up to n, that brings all back -/
def ordUp (x : Six) (n : Nat) : Option Nat := ((List.range n).find? fun i => decide (pow6 x (i + 1) = id6)).map (· + 1)
theorem ordUp_conj {c x : Six} (h : c.det = 1 ∨ c.det = -1) (n : Nat) : ordUp (comp (comp c x) (inv6 c)) n = ordUp x n := by
  unfold ordUp
  congr 1
  congr 1
  funext i
  rw [pow_conj h]
  simp only [conj_id h]
end KK

/-! rows of points around: sums along the edges, turns, convex rows -/
namespace NG
abbrev Pt := Int × Int
/-! ### sums -/
def hd (P : List Pt) : Pt := P.headD (0, 0)
def ls (P : List Pt) : Pt := P.getLastD (0, 0)
def ch (f : Pt → Pt → Int) : List Pt → Int
  | [] => 0
  | [_] => 0
  | x :: y :: r => f x y + ch f (y :: r)
def cyc (f : Pt → Pt → Int) (P : List Pt) : Int := f (ls P) (hd P) + ch f P
theorem hd_app {A B : List Pt} (h : A ≠ []) : hd (A ++ B) = hd A := by
  cases A with
  | nil => exact absurd rfl h
  | cons x A => rfl
theorem ls_app {A B : List Pt} (h : B ≠ []) : ls (A ++ B) = ls B := by
  unfold ls
  rw [List.getLastD_eq_getLast?, List.getLastD_eq_getLast?, List.getLast?_append]
  cases e : B.getLast? with
  | none => exact absurd (List.getLast?_eq_none_iff.mp e) h
  | some x => rfl
theorem ls_cons {x : Pt} {A : List Pt} (h : A ≠ []) : ls (x :: A) = ls A := ls_app (A := [x]) h
theorem ch_cat (f : Pt → Pt → Int) : ∀ {A B : List Pt}, A ≠ [] → B ≠ [] → ch f (A ++ B) = ch f A + f (ls A) (hd B) + ch f B
  | [], _, h, _ => absurd rfl h
  | _, [], _, h => absurd rfl h
  | [x], y :: B, _, _ => by
    show f x y + ch f (y :: B) = 0 + f x y + ch f (y :: B)
    omega
  | x :: y :: A, z :: B, _, _ => by
    have e := ch_cat f (A := y :: A) (B := z :: B) (by simp) (by simp)
    show f x y + ch f ((y :: A) ++ z :: B) = f x y + ch f (y :: A) + f (ls (x :: y :: A)) z + ch f (z :: B)
    rw [e, ls_cons (A := y :: A) (by simp)]
    show _ = f x y + ch f (y :: A) + f (ls (y :: A)) (hd (z :: B)) + ch f (z :: B)
    omega
theorem cyc_rot (f : Pt → Pt → Int) {A B : List Pt} (hA : A ≠ []) (hB : B ≠ []) : cyc f (B ++ A) = cyc f (A ++ B) := by
  unfold cyc
  rw [ch_cat f hA hB, ch_cat f hB hA, ls_app hA, ls_app hB, hd_app hA, hd_app hB]
  omega
theorem cyc_rot' (f : Pt → Pt → Int) (P : List Pt) (j : Nat) : cyc f (P.drop j ++ P.take j) = cyc f P := by
  by_cases h1 : P.take j = []
  · have : P.drop j = P := by
      have e := List.take_append_drop j P
      rw [h1] at e
      simpa using e
    rw [h1, this, List.append_nil]
  · by_cases h2 : P.drop j = []
    · have : P.take j = P := by
        have e := List.take_append_drop j P
        rw [h2] at e
        simpa using e
      rw [h2, this, List.nil_append]
    · rw [cyc_rot f h1 h2, List.take_append_drop]
theorem hd_rev (P : List Pt) : hd P.reverse = ls P := by
  unfold hd ls
  rw [List.getLastD_eq_getLast?, List.headD_eq_head?_getD, List.head?_reverse]
theorem ls_rev (P : List Pt) : ls P.reverse = hd P := by
  have := hd_rev P.reverse
  rw [List.reverse_reverse] at this
  exact this.symm
theorem ch_rev (f : Pt → Pt → Int) : ∀ P : List Pt, ch f P.reverse = ch (fun p q => f q p) P
  | [] => rfl
  | [x] => rfl
  | x :: y :: r => by
    have e := ch_rev f (y :: r)
    rw [List.reverse_cons, ch_cat f (by simp) (by simp), e, ls_rev]
    show ch (fun p q => f q p) (y :: r) + f y x + 0 = f y x + ch (fun p q => f q p) (y :: r)
    omega
theorem cyc_rev (f : Pt → Pt → Int) (P : List Pt) : cyc f P.reverse = cyc (fun p q => f q p) P := by
  unfold cyc
  rw [ch_rev, hd_rev, ls_rev]
/-- cut apart between x and y -/
theorem cyc_cut (f : Pt → Pt → Int) (A B C : List Pt) (x y : Pt) : cyc f (x :: B ++ [y]) + cyc f (A ++ [x] ++ (y :: C)) = cyc f (A ++ x :: (B ++ y :: C)) + f y x + f x y := by
  have e1 : A ++ x :: (B ++ y :: C) = (A ++ [x]) ++ (B ++ (y :: C)) := by simp
  have n1 : A ++ [x] ≠ [] := by simp
  have n2 : y :: C ≠ [] := by simp
  have l1 : ls (A ++ [x]) = x := ls_app (by simp)
  unfold cyc
  rw [ch_cat f n1 n2, ls_app n2, hd_app n1, l1]
  have hh : hd (A ++ x :: (B ++ y :: C)) = hd (A ++ [x]) := by rw [e1, hd_app n1]
  have hl : ls (A ++ x :: (B ++ y :: C)) = ls (y :: C) := by
    rw [e1, ls_app (by simp), ls_app n2]
  rw [hh, hl]
  have c1 : ch f (A ++ x :: (B ++ y :: C)) = ch f (A ++ [x]) + ch f (x :: (B ++ y :: C)) := by
    cases A with
    | nil => show ch f (x :: (B ++ y :: C)) = ch f [x] + ch f (x :: (B ++ y :: C)); simp [ch]
    | cons a A =>
      rw [ch_cat f (A := a :: A) (by simp) (by simp), ch_cat f (A := a :: A) (B := [x]) (by simp) (by simp)]
      show _ = ch f (a :: A) + f (ls (a :: A)) x + 0 + ch f (x :: (B ++ y :: C))
      show ch f (a :: A) + f (ls (a :: A)) x + ch f (x :: (B ++ y :: C)) = _
      omega
  have c2 : ch f (x :: (B ++ y :: C)) = ch f (x :: B ++ [y]) + ch f (y :: C) := by
    have e2 : x :: (B ++ y :: C) = (x :: B) ++ (y :: C) := by simp
    rw [e2, ch_cat f (by simp) n2, ch_cat f (A := x :: B) (B := [y]) (by simp) (by simp)]
    show _ = ch f (x :: B) + f (ls (x :: B)) y + 0 + ch f (y :: C)
    show ch f (x :: B) + f (ls (x :: B)) y + ch f (y :: C) = _
    omega
  rw [c1, c2]
  have l2 : ls (x :: B ++ [y]) = y := ls_app (by simp)
  rw [l2]
  show f y x + ch f (x :: B ++ [y]) + (f (ls (y :: C)) (hd (A ++ [x])) + (ch f (A ++ [x]) + f x y + ch f (y :: C))) = _
  omega
theorem ch_add (f g : Pt → Pt → Int) : ∀ P : List Pt, ch (fun p q => f p q + g p q) P = ch f P + ch g P
  | [] => rfl
  | [x] => rfl
  | x :: y :: r => by
    show f x y + g x y + ch (fun p q => f p q + g p q) (y :: r) = f x y + ch f (y :: r) + (g x y + ch g (y :: r))
    rw [ch_add f g (y :: r)]
    omega
theorem ch_diff (v : Pt → Int) : ∀ P : List Pt, P ≠ [] → ch (fun p q => v q - v p) P = v (ls P) - v (hd P)
  | [], h => absurd rfl h
  | [x], _ => by show (0 : Int) = v x - v x; omega
  | x :: y :: r, _ => by
    show v y - v x + ch (fun p q => v q - v p) (y :: r) = _
    rw [ch_diff v (y :: r) (by simp), ls_cons (A := y :: r) (by simp)]
    show v y - v x + (v (ls (y :: r)) - v y) = v (ls (y :: r)) - v x
    omega
theorem cyc_diff (v : Pt → Int) {P : List Pt} (h : P ≠ []) : cyc (fun p q => v q - v p) P = 0 := by
  unfold cyc
  rw [ch_diff v P h]
  show v (hd P) - v (ls P) + (v (ls P) - v (hd P)) = 0
  omega
theorem ch_even {f : Pt → Pt → Int} (h : ∀ p q, f p q % 2 = 0) : ∀ P : List Pt, ch f P % 2 = 0
  | [] => rfl
  | [x] => rfl
  | x :: y :: r => by
    show (f x y + ch f (y :: r)) % 2 = 0
    have := h x y
    have := ch_even h (y :: r)
    omega
def fA (p q : Pt) : Int := (p.1 + q.1) * (q.2 - p.2)
def fG (p q : Pt) : Int := Int.gcd (q.1 - p.1) (q.2 - p.2)
theorem fA_anti (p q : Pt) : fA q p = -fA p q := by unfold fA; grind
theorem fG_sym (p q : Pt) : fG q p = fG p q := by
  unfold fG
  rw [show p.1 - q.1 = -(q.1 - p.1) by omega, show p.2 - q.2 = -(q.2 - p.2) by omega, Int.gcd_neg, Int.neg_gcd]
theorem gcd_par (a b : Int) : ((Int.gcd a b : Int) + a * b + a + b) % 2 = 0 := by
  have g1 : (Int.gcd a b : Int) ∣ a := Int.gcd_dvd_left ..
  have g2 : (Int.gcd a b : Int) ∣ b := Int.gcd_dvd_right ..
  have key : (Int.gcd a b : Int) % 2 = 0 ↔ a % 2 = 0 ∧ b % 2 = 0 := by
    constructor
    · intro h
      have d : (2 : Int) ∣ Int.gcd a b := Int.dvd_of_emod_eq_zero h
      exact ⟨Int.emod_eq_zero_of_dvd (Int.dvd_trans d g1), Int.emod_eq_zero_of_dvd (Int.dvd_trans d g2)⟩
    · rintro ⟨h1, h2⟩
      have : (2 : Int) ∣ (Int.gcd a b : Int) := by
        have := Int.dvd_gcd (Int.dvd_of_emod_eq_zero h1) (Int.dvd_of_emod_eq_zero h2)
        exact_mod_cast this
      exact Int.emod_eq_zero_of_dvd this
  generalize (Int.gcd a b : Int) = g at *
  have hab : (a * b) % 2 = (a % 2) * (b % 2) % 2 := Int.mul_emod a b 2
  rcases Int.emod_two_eq a with h1 | h1 <;> rcases Int.emod_two_eq b with h2 | h2 <;> rw [h1, h2] at hab <;> simp only [h1, h2] at key
  · have := key.mpr (by simp); omega
  · have : ¬ g % 2 = 0 := fun z => by have := (key.mp z).2; simp at this
    omega
  · have : ¬ g % 2 = 0 := fun z => by have := (key.mp z).1; simp at this
    omega
  · have : ¬ g % 2 = 0 := fun z => by have := (key.mp z).1; simp at this
    omega
theorem par_edge (p q : Pt) : (fA p q + fG p q + (q.1 - p.1) + (q.2 - p.2)) % 2 = 0 := by
  have := gcd_par (q.1 - p.1) (q.2 - p.2)
  unfold fA fG
  generalize (Int.gcd (q.1 - p.1) (q.2 - p.2) : Int) = g at *
  have e : (p.1 + q.1) * (q.2 - p.2) = (q.1 - p.1) * (q.2 - p.2) + 2 * (p.1 * (q.2 - p.2)) := by grind
  rw [e]
  generalize (q.1 - p.1) * (q.2 - p.2) = m at *
  generalize p.1 * (q.2 - p.2) = k at *
  omega
/-- area and border are even together -/
theorem par {P : List Pt} (h : P ≠ []) : (cyc fA P + cyc fG P) % 2 = 0 := by
  have e : ∀ p q, (fun p q => fA p q + fG p q + ((fun p q : Pt => q.1 - p.1) p q + (fun p q : Pt => q.2 - p.2) p q)) p q % 2 = 0 := by
    intro p q
    have := par_edge p q
    show (fA p q + fG p q + ((q.1 - p.1) + (q.2 - p.2))) % 2 = 0
    omega
  have c := ch_even e P
  have d1 := cyc_diff (fun p => p.1) h
  have d2 := cyc_diff (fun p => p.2) h
  have e0 := e (ls P) (hd P)
  have s1 := ch_add (fun p q => fA p q + fG p q) (fun p q => (fun p q : Pt => q.1 - p.1) p q + (fun p q : Pt => q.2 - p.2) p q) P
  have s2 := ch_add fA fG P
  have s3 := ch_add (fun p q : Pt => q.1 - p.1) (fun p q : Pt => q.2 - p.2) P
  simp only at s1 s3 c e0
  unfold cyc at *
  simp only at d1 d2
  omega
end NG

/-! convex rows: all turns one way, once around -/
namespace NG
def orient (p q r : Pt) : Int := (q.1 - p.1) * (r.2 - p.2) - (q.2 - p.2) * (r.1 - p.1)
theorem or_cyc (p q r : Pt) : orient q r p = orient p q r := by unfold orient; grind
/-- every three in their order turn the same way -/
def Cvx (s : Int) (P : List Pt) : Prop := ∀ a b c, [a, b, c].Sublist P → 0 < s * orient a b c
theorem Cvx.sub {s : Int} {P Q : List Pt} (h : Cvx s P) (q : Q.Sublist P) : Cvx s Q := fun a b c z => h a b c (z.trans q)
def at' (P : List Pt) (i : Nat) : Pt := P.getD i (0, 0)
theorem sub1 {P : List Pt} : ∀ {i : Nat}, i < P.length → [at' P i].Sublist P := by
  intro i hi
  have : at' P i ∈ P := by
    unfold at'
    rw [List.getD_eq_getElem?_getD, List.getElem?_eq_getElem hi]
    exact List.getElem_mem hi
  exact List.singleton_sublist.mpr this
theorem sub2 : ∀ {P : List Pt} {i j : Nat}, i < j → j < P.length → [at' P i, at' P j].Sublist P
  | [], i, j, _, h => by cases h
  | x :: P, 0, j + 1, _, h => by
    show [x, at' P j].Sublist (x :: P)
    exact (sub1 (P := P) (by simpa using h)).cons_cons x
  | x :: P, i + 1, j + 1, h1, h => by
    show [at' P i, at' P j].Sublist (x :: P)
    exact (sub2 (P := P) (by omega) (by simpa using h)).cons x
theorem sub3 : ∀ {P : List Pt} {i j k : Nat}, i < j → j < k → k < P.length → [at' P i, at' P j, at' P k].Sublist P
  | [], i, j, k, _, _, h => by cases h
  | x :: P, 0, j + 1, k + 1, _, h2, h => by
    show [x, at' P j, at' P k].Sublist (x :: P)
    exact (sub2 (P := P) (by omega) (by simpa using h)).cons_cons x
  | x :: P, i + 1, j + 1, k + 1, h1, h2, h => by
    show [at' P i, at' P j, at' P k].Sublist (x :: P)
    exact (sub3 (P := P) (by omega) (by omega) (by simpa using h)).cons x
def nx (n i : Nat) : Nat := if i + 1 < n then i + 1 else 0
def pr (n i : Nat) : Nat := if i = 0 then n - 1 else i - 1
theorem nx_lt {n i : Nat} (h : i < n) : nx n i < n := by unfold nx; split <;> omega
theorem pr_lt {n i : Nat} (h : i < n) : pr n i < n := by unfold pr; split <;> omega
theorem nx_pr {n i : Nat} (h : i < n) : nx n (pr n i) = i := by unfold nx pr; split <;> split <;> omega
theorem pr_nx {n i : Nat} (h : i < n) : pr n (nx n i) = i := by unfold nx pr; (repeat' split) <;> omega
theorem Cvx.at3 {s : Int} {P : List Pt} (h : Cvx s P) {i j k : Nat} (h1 : i < j) (h2 : j < k) (h3 : k < P.length) : 0 < s * orient (at' P i) (at' P j) (at' P k) := h _ _ _ (sub3 h1 h2 h3)
/-- around: i, the next, another -/
theorem Cvx.nxt {s : Int} {P : List Pt} (h : Cvx s P) {i k : Nat} (hi : i < P.length) (hk : k < P.length) (n1 : k ≠ i) (n2 : k ≠ nx P.length i) : 0 < s * orient (at' P i) (at' P (nx P.length i)) (at' P k) := by
  unfold nx at *
  by_cases q : i + 1 < P.length
  · rw [if_pos q] at n2 ⊢
    by_cases l : k < i
    · rw [← or_cyc (at' P i), ← or_cyc (at' P (i + 1))]
      exact h.at3 l (by omega) q
    · exact h.at3 (by omega) (by omega) hk
  · rw [if_neg q] at n2 ⊢
    rw [← or_cyc (at' P i)]
    exact h.at3 (by omega) (by omega) hi
theorem Cvx.turn {s : Int} {P : List Pt} (h : Cvx s P) {i : Nat} (hi : i < P.length) (h3 : 3 ≤ P.length) : 0 < s * orient (at' P (pr P.length i)) (at' P i) (at' P (nx P.length i)) := by
  have := h.nxt (pr_lt hi) (nx_lt hi) (k := nx P.length i) (by unfold nx pr; (repeat' split) <;> omega) (by rw [nx_pr hi]; unfold nx; (repeat' split) <;> omega)
  rwa [nx_pr hi] at this
theorem or_same (p q : Pt) : orient p p q = 0 ∧ orient p q p = 0 ∧ orient q p p = 0 := by unfold orient; refine ⟨?_, ?_, ?_⟩ <;> grind
theorem Cvx.ne {s : Int} {P : List Pt} (h : Cvx s P) (h3 : 3 ≤ P.length) {i j : Nat} (hi : i < j) (hj : j < P.length) : at' P i ≠ at' P j := by
  intro e
  by_cases q : 0 < i
  · have := h.at3 q hi hj
    rw [e, (or_same (at' P j) (at' P 0)).2.2] at this
    omega
  · by_cases q2 : i + 1 < j
    · have := h.at3 (show i < i + 1 by omega) q2 hj
      rw [e, (or_same (at' P j) (at' P (i + 1))).2.1] at this
      omega
    · have := h.at3 hi (show j < j + 1 by omega) (by omega)
      rw [e, (or_same (at' P j) (at' P (j + 1))).1] at this
      omega
/-! ### the order of points -/
def ltP (p q : Pt) : Bool := if p.1 = q.1 then decide (p.2 < q.2) else decide (p.1 < q.1)
def pos (v : Pt) : Prop := 0 < v.1 ∨ (v.1 = 0 ∧ 0 < v.2)
instance (v : Pt) : Decidable (pos v) := inferInstanceAs (Decidable (_ ∨ _))
def dif (p q : Pt) : Pt := (q.1 - p.1, q.2 - p.2)
def crs (u v : Pt) : Int := u.1 * v.2 - u.2 * v.1
theorem crs_dif (p q r : Pt) : crs (dif p q) (dif q r) = orient p q r := by unfold crs dif orient; grind
theorem crs_or (p q r : Pt) : crs (dif p q) (dif p r) = orient p q r := rfl
/-- between two that are after, after -/
theorem cone {s : Int} {n m v : Pt} (hn : pos n) (hm : pos m) (d : 0 < s * crs n m) (a : 0 < s * crs v m) (b : 0 < s * crs n v) : pos v := by
  have e1 : (s * crs n m) * v.1 = (s * crs v m) * n.1 + (s * crs n v) * m.1 := by unfold crs; grind
  have e2 : (s * crs n m) * v.2 = (s * crs v m) * n.2 + (s * crs n v) * m.2 := by unfold crs; grind
  generalize s * crs n m = D at *
  generalize s * crs v m = α at *
  generalize s * crs n v = β at *
  have n1 : 0 ≤ n.1 := by rcases hn with h | h <;> omega
  have m1 : 0 ≤ m.1 := by rcases hm with h | h <;> omega
  have p1 := Int.mul_nonneg (Int.le_of_lt a) n1
  have p2 := Int.mul_nonneg (Int.le_of_lt b) m1
  rcases Int.lt_trichotomy v.1 0 with z | z | z
  · have := Int.mul_neg_of_pos_of_neg d z
    omega
  · rw [z, Int.mul_zero] at e1
    have z1 : n.1 = 0 := by
      rcases Int.mul_eq_zero.mp (show α * n.1 = 0 by omega) with q | q <;> omega
    have z2 : m.1 = 0 := by
      rcases Int.mul_eq_zero.mp (show β * m.1 = 0 by omega) with q | q <;> omega
    have n2 : 0 < n.2 := by rcases hn with h | h <;> omega
    have m2 : 0 < m.2 := by rcases hm with h | h <;> omega
    have q1 := Int.mul_pos a n2
    have q2 := Int.mul_pos b m2
    refine .inr ⟨z, ?_⟩
    rcases Int.lt_or_le 0 v.2 with k | k
    · exact k
    · have := Int.mul_nonpos_of_nonneg_of_nonpos (Int.le_of_lt d) k
      omega
  · exact .inl z
/-- a place that is before both its neighbours is before all -/
theorem Cvx.least {s : Int} {P : List Pt} (h : Cvx s P) (h3 : 3 ≤ P.length) {j : Nat} (hj : j < P.length) (p1 : pos (dif (at' P j) (at' P (nx P.length j)))) (p2 : pos (dif (at' P j) (at' P (pr P.length j)))) :
    ∀ k, k < P.length → k ≠ j → pos (dif (at' P j) (at' P k)) := by
  intro k hk ne
  by_cases k1 : k = nx P.length j
  · rw [k1]; exact p1
  by_cases k2 : k = pr P.length j
  · rw [k2]; exact p2
  have hp := pr_lt hj
  refine cone (s := s) p1 p2 ?_ ?_ ?_
  · rw [crs_or]
    exact h.nxt hj hp (by unfold pr; split <;> omega) (by unfold nx pr; (repeat' split) <;> omega)
  · rw [crs_or]
    have := h.nxt hp hk k2 (by rw [nx_pr hj]; exact ne)
    rw [nx_pr hj] at this
    rw [or_cyc]
    exact this
  · rw [crs_or]
    exact h.nxt hj hk ne k1
/-! ### once around -/
theorem pos_anti {p q : Pt} (h : pos (dif p q)) : ¬ pos (dif q p) := by
  unfold pos dif at *
  simp only at *
  omega
theorem pos_tot {p q : Pt} (h : p ≠ q) : pos (dif p q) ∨ pos (dif q p) := by
  unfold pos dif
  simp only
  have : ¬ (p.1 = q.1 ∧ p.2 = q.2) := fun z => h (Prod.ext z.1 z.2)
  omega
theorem pos_trans {p q r : Pt} (h1 : pos (dif p q)) (h2 : pos (dif q r)) : pos (dif p r) := by
  unfold pos dif at *
  simp only at *
  omega
theorem pos_lt (v : Pt) : ltP (0, 0) v = decide (pos v) := by
  have key : ltP (0, 0) v = true ↔ pos v := by
    unfold ltP pos
    simp only
    split
    · rw [decide_eq_true_iff]; omega
    · rw [decide_eq_true_iff]; omega
  cases q : ltP (0, 0) v with
  | true => exact (decide_eq_true (key.mp q)).symm
  | false => exact (decide_eq_false fun z => by rw [key.mpr z] at q; cases q).symm
theorem Cvx.dist {s : Int} {P : List Pt} (h : Cvx s P) (h3 : 3 ≤ P.length) {i j : Nat} (hi : i < P.length) (hj : j < P.length) (ne : i ≠ j) : at' P i ≠ at' P j := by
  rcases Nat.lt_or_gt_of_ne ne with q | q
  · exact h.ne h3 q hj
  · exact fun e => h.ne h3 q hi e.symm
theorem Cvx.first {s : Int} {P : List Pt} (h : Cvx s P) (h3 : 3 ≤ P.length) : ∀ n, n ≤ P.length → 1 ≤ n → ∃ m, m < n ∧ ∀ k, k < n → k ≠ m → pos (dif (at' P m) (at' P k))
  | 0, _, h1 => by omega
  | 1, _, _ => ⟨0, by omega, fun k hk ne => by omega⟩
  | n + 2, hn, _ => by
    obtain ⟨m, hm, hk⟩ := Cvx.first h h3 (n + 1) (by omega) (by omega)
    rcases pos_tot (h.dist h3 (show m < P.length by omega) (show n + 1 < P.length by omega) (by omega)) with q | q
    · refine ⟨m, by omega, fun k k1 ne => ?_⟩
      by_cases e : k = n + 1
      · rw [e]; exact q
      · exact hk k (by omega) ne
    · refine ⟨n + 1, by omega, fun k k1 ne => ?_⟩
      by_cases e : k = m
      · rw [e]; exact q
      · exact pos_trans q (hk k (by omega) e)
def i01 (b : Bool) : Int := if b = true then 1 else 0
theorem sum_nx (g : Nat → Int) (n : Nat) (h : 1 ≤ n) : ((List.range n).map fun i => g (nx n i)).sum = ((List.range n).map g).sum := by
  obtain ⟨m, rfl⟩ : ∃ m, n = m + 1 := ⟨n - 1, by omega⟩
  have e1 : (List.range (m + 1)).map (fun i => g (nx (m + 1) i)) = (List.range m).map (fun i => g (i + 1)) ++ [g 0] := by
    rw [List.range_succ, List.map_append]
    congr 1
    · apply List.map_congr_left
      intro i hi
      rw [List.mem_range] at hi
      unfold nx
      rw [if_pos (by omega)]
    · simp [nx]
  have e2 : (List.range (m + 1)).map g = g 0 :: (List.range m).map (fun i => g (i + 1)) := by
    rw [List.range_succ_eq_map, List.map_cons, List.map_map]
    rfl
  rw [e1, e2]
  simp
  omega
theorem sum_none (g : Nat → Bool) : ∀ n, (∀ i, i < n → g i = false) → ((List.range n).map fun i => i01 (g i)).sum = 0
  | 0, _ => rfl
  | n + 1, h => by
    rw [List.range_succ, List.map_append, List.sum_append, sum_none g n fun i hi => h i (by omega)]
    simp [i01, h n (by omega)]
theorem sum_one (g : Nat → Bool) (j : Nat) (hj : g j = true) : ∀ n, j < n → (∀ i, i < n → g i = true → i = j) → ((List.range n).map fun i => i01 (g i)).sum = 1
  | 0, h, _ => by omega
  | n + 1, h, u => by
    rw [List.range_succ, List.map_append, List.sum_append]
    by_cases e : j = n
    · rw [sum_none g n fun i hi => by
        cases q : g i with
        | false => rfl
        | true => have := u i (by omega) q; omega]
      rw [← e]
      simp [i01, hj]
    · rw [sum_one g j hj n (by omega) fun i hi => u i (by omega)]
      have : g n = false := by
        cases q : g n with
        | false => rfl
        | true => have := u n (by omega) q; omega
      simp [i01, this]
theorem sum_add (f g : Nat → Int) : ∀ n, ((List.range n).map fun i => f i + g i).sum = ((List.range n).map f).sum + ((List.range n).map g).sum
  | 0 => rfl
  | n + 1 => by
    rw [List.range_succ, List.map_append, List.map_append, List.map_append, List.sum_append, List.sum_append, List.sum_append, sum_add f g n]
    simp
    omega
def asc (P : List Pt) (i : Nat) : Bool := ltP (0, 0) (dif (at' P i) (at' P (nx P.length i)))
theorem Cvx.once {s : Int} {P : List Pt} (h : Cvx s P) (h3 : 3 ≤ P.length) : ((List.range P.length).map fun i => i01 (asc P i != asc P (nx P.length i))).sum = 2 := by
  obtain ⟨m, hm, least⟩ := h.first h3 P.length (Nat.le_refl _) (by omega)
  have a_iff : ∀ i, asc P i = true ↔ pos (dif (at' P i) (at' P (nx P.length i))) := fun i => by
    unfold asc
    rw [pos_lt, decide_eq_true_iff]
  have low : ∀ i, i < P.length → (!asc P i && asc P (nx P.length i)) = true → i = pr P.length m := by
    intro i hi q
    rw [Bool.and_eq_true, Bool.not_eq_true'] at q
    have n1 : ¬ pos (dif (at' P i) (at' P (nx P.length i))) := fun z => by
      rw [(a_iff i).mpr z] at q
      exact absurd q.1 (by decide)
    have hn := nx_lt hi
    have n2 : i ≠ nx P.length i := by unfold nx; split <;> omega
    have p2 : pos (dif (at' P (nx P.length i)) (at' P i)) := by
      rcases pos_tot (h.dist h3 hi hn n2) with z | z
      · exact absurd z n1
      · exact z
    have p1 := (a_iff _).mp q.2
    have p3 : pos (dif (at' P (nx P.length i)) (at' P (pr P.length (nx P.length i)))) := by rw [pr_nx hi]; exact p2
    have all := h.least h3 hn p1 p3
    have e : nx P.length i = m := by
      by_cases z : nx P.length i = m
      · exact z
      · exact absurd (least _ hn z) (pos_anti (all m hm fun w => z w.symm))
    rw [← e, pr_nx hi]
  have there : (!asc P (pr P.length m) && asc P (nx P.length (pr P.length m))) = true := by
    rw [nx_pr hm, Bool.and_eq_true, Bool.not_eq_true']
    have ne1 : nx P.length m ≠ m := by unfold nx; split <;> omega
    have ne2 : pr P.length m ≠ m := by unfold pr; split <;> omega
    refine ⟨?_, (a_iff m).mpr (least _ (nx_lt hm) ne1)⟩
    cases q : asc P (pr P.length m) with
    | false => rfl
    | true =>
      have z := (a_iff _).mp q
      rw [nx_pr hm] at z
      exact absurd z (pos_anti (least _ (pr_lt hm) ne2))
  have one := sum_one (fun i => !asc P i && asc P (nx P.length i)) (pr P.length m) there P.length (pr_lt hm) low
  have tel := sum_nx (fun i => i01 (asc P i)) P.length (by omega)
  have e : ∀ i, i01 (asc P i != asc P (nx P.length i)) + i01 (asc P (nx P.length i)) = (i01 (!asc P i && asc P (nx P.length i)) + i01 (!asc P i && asc P (nx P.length i))) + i01 (asc P i) := by
    intro i
    cases asc P i <;> cases asc P (nx P.length i) <;> rfl
  have s1 : ((List.range P.length).map fun i => i01 (asc P i != asc P (nx P.length i)) + i01 (asc P (nx P.length i))).sum = ((List.range P.length).map fun i => i01 (asc P i != asc P (nx P.length i))).sum + ((List.range P.length).map fun i => i01 (asc P (nx P.length i))).sum := sum_add _ _ P.length
  have s2 : ((List.range P.length).map fun i => (i01 (!asc P i && asc P (nx P.length i)) + i01 (!asc P i && asc P (nx P.length i))) + i01 (asc P i)).sum = ((List.range P.length).map fun i => i01 (!asc P i && asc P (nx P.length i)) + i01 (!asc P i && asc P (nx P.length i))).sum + ((List.range P.length).map fun i => i01 (asc P i)).sum := sum_add _ _ P.length
  have s3 : ((List.range P.length).map fun i => i01 (!asc P i && asc P (nx P.length i)) + i01 (!asc P i && asc P (nx P.length i))).sum = ((List.range P.length).map fun i => i01 (!asc P i && asc P (nx P.length i))).sum + ((List.range P.length).map fun i => i01 (!asc P i && asc P (nx P.length i))).sum := sum_add _ _ P.length
  have t : ((List.range P.length).map fun i => i01 (asc P i != asc P (nx P.length i)) + i01 (asc P (nx P.length i))).sum = ((List.range P.length).map fun i => (i01 (!asc P i && asc P (nx P.length i)) + i01 (!asc P i && asc P (nx P.length i))) + i01 (asc P i)).sum := congrArg List.sum (List.map_congr_left fun i _ => e i)
  have tel : ((List.range P.length).map fun i => i01 (asc P (nx P.length i))).sum = ((List.range P.length).map fun i => i01 (asc P i)).sum := tel
  have one : ((List.range P.length).map fun i => i01 (!asc P i && asc P (nx P.length i))).sum = 1 := one
  omega
end NG

/-! rows of any length in the small language -/
namespace PyI
open PySem
open NG (Pt at' nx pr)
/-- f 0, .., f (n - 1) -/
def rn {α : Type} (n : Nat) (f : Nat → α) : List α := (List.range n).map f
theorem rn_len {α : Type} (n : Nat) (f : Nat → α) : (rn n f).length = n := by unfold rn; simp
theorem rn_get {α : Type} (n : Nat) (f : Nat → α) (i : Nat) : (rn n f)[i]? = if i < n then some (f i) else none := by
  unfold rn
  rw [List.getElem?_map]
  by_cases h : i < n
  · rw [if_pos h, List.getElem?_range h]; rfl
  · rw [if_neg h, List.getElem?_eq_none (by simp; omega)]; rfl
theorem rn_map {α β : Type} (n : Nat) (f : Nat → α) (g : α → β) : (rn n f).map g = rn n fun i => g (f i) := by unfold rn; rw [List.map_map]; rfl
theorem rn_congr {α : Type} {n : Nat} {f g : Nat → α} (h : ∀ i, i < n → f i = g i) : rn n f = rn n g := by
  unfold rn
  exact List.map_congr_left fun i hi => h i (List.mem_range.mp hi)
theorem rn_at (P : List Pt) : P = rn P.length (at' P) := by
  apply List.ext_getElem?
  intro i
  rw [rn_get]
  by_cases h : i < P.length
  · rw [if_pos h, List.getElem?_eq_getElem h]
    unfold at'
    rw [List.getD_eq_getElem?_getD, List.getElem?_eq_getElem h]
    rfl
  · rw [if_neg h, List.getElem?_eq_none (by omega)]
theorem rn_rotl {α : Type} (n : Nat) (f : Nat → α) (h : 1 ≤ n) : (rn n f).drop 1 ++ (rn n f).take 1 = rn n fun i => f (nx n i) := by
  obtain ⟨m, rfl⟩ : ∃ m, n = m + 1 := ⟨n - 1, by omega⟩
  have e1 : rn (m + 1) f = f 0 :: rn m fun i => f (i + 1) := by
    unfold rn
    rw [List.range_succ_eq_map, List.map_cons, List.map_map]
    rfl
  have e2 : (rn (m + 1) fun i => f (nx (m + 1) i)) = (rn m fun i => f (i + 1)) ++ [f 0] := by
    unfold rn
    rw [List.range_succ, List.map_append]
    congr 1
    · apply List.map_congr_left
      intro i hi
      rw [List.mem_range] at hi
      unfold nx
      rw [if_pos (by omega)]
    · simp [nx]
  rw [e1, e2]
  simp
theorem rn_rotr {α : Type} (n : Nat) (f : Nat → α) (h : 1 ≤ n) : (rn n f).drop (n - 1) ++ (rn n f).take (n - 1) = rn n fun i => f (pr n i) := by
  obtain ⟨m, rfl⟩ : ∃ m, n = m + 1 := ⟨n - 1, by omega⟩
  have e1 : rn (m + 1) f = rn m f ++ [f m] := by
    unfold rn
    rw [List.range_succ, List.map_append]
    rfl
  have e2 : (rn (m + 1) fun i => f (pr (m + 1) i)) = f m :: rn m f := by
    unfold rn
    rw [List.range_succ_eq_map, List.map_cons, List.map_map]
    congr 1
  rw [e1, e2]
  have l := rn_len m f
  simp [l]
theorem cut_from (xs : List D) (k : Nat) : cutD xs (some (k : Int)) none = xs.drop k := by
  unfold cutD
  rw [HT.sIx_nat, HT.sIx_none]
  by_cases h : k ≤ xs.length
  · rw [Nat.min_eq_left h]
    exact List.take_of_length_le (by simp)
  · rw [Nat.min_eq_right (by omega), List.drop_of_length_le (Nat.le_refl _), List.drop_of_length_le (by omega), List.take_nil]
theorem cut_to (xs : List D) (k : Nat) : cutD xs none (some (k : Int)) = xs.take k := by
  unfold cutD
  rw [HT.sIx_nat, HT.sIx_none, List.drop_zero, Nat.sub_zero]
  by_cases h : k ≤ xs.length
  · rw [Nat.min_eq_left h]
  · rw [Nat.min_eq_right (by omega), List.take_of_length_le (Nat.le_refl _), List.take_of_length_le (by omega)]
theorem cut_fromto (xs : List D) (j k : Nat) : cutD xs (some (j : Int)) (some (k : Int)) = (xs.take k).drop j := by
  unfold cutD
  rw [HT.sIx_nat, HT.sIx_nat, List.drop_take]
  by_cases h : j ≤ xs.length
  · rw [Nat.min_eq_left h]
    by_cases h2 : k ≤ xs.length
    · rw [Nat.min_eq_left h2]
    · rw [Nat.min_eq_right (by omega), List.take_of_length_le (by simp), List.take_of_length_le (by simp; omega)]
  · rw [Nat.min_eq_right (show xs.length ≤ j by omega), List.drop_of_length_le (Nat.le_refl _), List.drop_of_length_le (by omega), List.take_nil, List.take_nil]
theorem sIx_m1 (n d : Nat) (h : 1 ≤ n) : HT.sIx n d (some (-1)) = n - 1 := by
  show (if (-1 : Int) < 0 then ((-1 : Int) + (n : Int)).toNat else min (-1 : Int).toNat n) = n - 1
  rw [if_pos (by omega)]
  omega
theorem cut_fm (xs : List D) (h : 1 ≤ xs.length) : cutD xs (some (-1)) none = xs.drop (xs.length - 1) := by
  unfold cutD
  rw [sIx_m1 _ _ h, HT.sIx_none]
  exact List.take_of_length_le (by simp)
theorem cut_tm (xs : List D) (h : 1 ≤ xs.length) : cutD xs none (some (-1)) = xs.take (xs.length - 1) := by
  unfold cutD
  rw [sIx_m1 _ _ h, HT.sIx_none, List.drop_zero, Nat.sub_zero]
theorem zipL_rn (n : Nat) (f g : Nat → D) : zipL (rn n f) (rn n g) = rn n fun i => .tup [f i, g i] := by
  unfold rn
  generalize List.range n = l
  induction l with
  | nil => rfl
  | cons x l ih => simp only [List.map_cons, zipL, ih]
/-- a comprehension over a row -/
theorem runLc_rn {C : Orc} {tg : Tg} {own : List Nat} {e : IE} {env : Env} (n : Nat) (f g : Nat → D) (M : Mem) (hb : ∀ i, i < n → ∃ env1, tg.bind (f i) (wipeE env own) = some env1 ∧ denE C e env1 M = some (.ok (.d (g i)) M)) (hl : n ≤ 1000000) :
    runLc C tg own .nil e env (rn n f) M = some (.ok (rn n g) M) := by
  have key : ∀ (l : List Nat) (acc : List D), (∀ i ∈ l, i < n) → acc.length + l.length ≤ 1000000 → lcL tg (wipeE env own) (denT C .nil) (fun env M => bnd (denE C e env M) runHold) (l.map f) acc M = some (.ok (acc ++ l.map g) M) := by
    intro l
    induction l with
    | nil => intro acc _ _; rw [List.map_nil, List.map_nil, List.append_nil]; rfl
    | cons i l ih =>
      intro acc hi hz
      rw [List.length_cons] at hz
      obtain ⟨env1, e1, e2⟩ := hb i (hi i List.mem_cons_self)
      have e4 := ih (acc ++ [g i]) (fun j hj => hi j (List.mem_cons_of_mem _ hj)) (by simp; omega)
      have hz : acc.length < sizeLine := by
        have : sizeLine = 16777216 := by decide
        omega
      have e3 : (fun env M => bnd (denE C e env M) runHold) env1 M = some (.ok (g i) M) := by
        show bnd (denE C e env1 M) runHold = _
        rw [e2]
        rfl
      have t : denT C .nil env1 M = some (.ok true M) := eT_nil _ _ _
      rw [List.map_cons, List.map_cons]
      simp only [lcL, e1, t, e3, hz, if_true]
      rw [e4, List.append_assoc]
      rfl
  have := key (List.range n) [] (fun i hi => List.mem_range.mp hi) (by simpa using hl)
  rw [List.nil_append] at this
  exact this
/-! ### the least and the greatest of ints -/
theorem minI_all (p : Int → Prop) : ∀ (ns : List Int) (n : Int), p n → (∀ m ∈ ns, p m) → p (minI n ns)
  | [], n, h, _ => h
  | m :: ns, n, h, hs => by
    show p (minI (if decide (m < n) = true then m else n) ns)
    refine minI_all p ns _ ?_ fun k hk => hs k (List.mem_cons_of_mem _ hk)
    split
    · exact hs m List.mem_cons_self
    · exact h
theorem maxI_all (p : Int → Prop) : ∀ (ns : List Int) (n : Int), p n → (∀ m ∈ ns, p m) → p (maxI n ns)
  | [], n, h, _ => h
  | m :: ns, n, h, hs => by
    show p (maxI (if decide (n < m) = true then m else n) ns)
    refine maxI_all p ns _ ?_ fun k hk => hs k (List.mem_cons_of_mem _ hk)
    split
    · exact hs m List.mem_cons_self
    · exact h
theorem minP_mem' : ∀ (ps : List (Int × Int)) (p : Int × Int), minP p ps ∈ p :: ps
  | [], p => List.mem_cons_self
  | q :: ps, p => by
    have h := minP_mem' ps (if ltP q p = true then q else p)
    show minP (if ltP q p = true then q else p) ps ∈ _
    rcases List.mem_cons.mp h with e | e
    · rw [e]
      split
      · simp
      · simp
    · exact List.mem_cons_of_mem _ (List.mem_cons_of_mem _ e)
theorem ptsOf_map : ∀ ps : List (Int × Int), ptsOf (ps.map ptD) = some ps
  | [] => rfl
  | p :: ps => by
    show (ptsOf (ps.map ptD)).map ((p.1, p.2) :: ·) = _
    rw [ptsOf_map ps]
    rfl
theorem best_ints (fi : Int → List Int → Int) (fp : Int × Int → List (Int × Int) → Int × Int) (n : Int) (ns : List Int) : bestD fi fp ((n :: ns).map .int) = some (.int (fi n ns)) := by
  unfold bestD
  rw [intsOf_map]
theorem best_pts (fi : Int → List Int → Int) (fp : Int × Int → List (Int × Int) → Int × Int) (p : Int × Int) (ps : List (Int × Int)) : bestD fi fp ((p :: ps).map ptD) = some (ptD (fp p ps)) := by
  unfold bestD
  have : intsOf ((p :: ps).map ptD) = none := rfl
  rw [this, ptsOf_map]
/-! ### in, index -/
theorem in_ints (i : Int) (ts : List Int) (h : i ∉ ts) : inD (.int i) (.lst (ts.map .int)) = some false := by
  have e1 := toPs_map (α := Int) ts
  have e1 : toPs (ts.map D.int) = some (ts.map PyData.int) := e1
  have l := layAll_map (α := Int) ts
  have d := depAll_map (α := Int) ts
  have sh : SeqAt.shaped (.int i) = true ∧ SeqAt.shaped (.list (ts.map PyData.int)) = true := by
    constructor
    · show (PyData.canLay0 (.int i) && decide (PyData.depth (.int i) ≤ 64)) = true
      simp [PyData.canLay0, PyData.depth]
    · show (PyData.canLay0 (.list (ts.map PyData.int)) && decide (PyData.depth (.list (ts.map PyData.int)) ≤ 64)) = true
      have l : PyData.canLayAll0 (ts.map PyData.int) = true := l
      have d : PyData.depthAll (ts.map PyData.int) ≤ 0 := d
      simp only [PyData.canLay0, PyData.depth, l, Bool.true_and, decide_eq_true_eq]
      exact decide_eq_true (Nat.le_trans (Nat.add_le_add_right d 1) (show 0 + 1 ≤ 64 by decide))
  simp only [inD, D.toP, e1, sh, and_self, if_true]
  congr 1
  rw [List.any_map, List.any_eq_false]
  intro t ht
  have : t ≠ i := fun z => h (z ▸ ht)
  simpa [PyData.eqv] using this
theorem index_pts (ps : List (Int × Int)) (p : Int × Int) (h : p ∈ ps) : ∃ j : Nat, j < ps.length ∧ indexD (ps.map ptD) (ptD p) = some (.int (j : Int)) := by
  have e1 : toPs (ps.map ptD) = some (ps.map ptP) := toPs_map (α := Int × Int) ps
  have e2 : D.toP (ptD p) = some (ptP p) := toP_ptD p
  have l : PyData.canLayAll0 (ps.map ptP) = true := layAll_map (α := Int × Int) ps
  have d : PyData.depthAll (ps.map ptP) ≤ 1 := depAll_map (α := Int × Int) ps
  have sh : SeqAt.shaped (.list (ps.map ptP)) = true ∧ SeqAt.shaped (ptP p) = true := by
    constructor
    · show (PyData.canLay0 (.list (ps.map ptP)) && decide (PyData.depth (.list (ps.map ptP)) ≤ 64)) = true
      simp only [PyData.canLay0, PyData.depth, l, Bool.true_and, decide_eq_true_eq]
      exact decide_eq_true (Nat.le_trans (Nat.add_le_add_right d 1) (show 1 + 1 ≤ 64 by decide))
    · show (PyData.canLay0 (PyData.tuple [.int p.1, .int p.2]) && decide (PyData.depth (PyData.tuple [.int p.1, .int p.2]) ≤ 64)) = true
      simp [PyData.canLay0, PyData.canLayAll0, PyData.depth, PyData.depthAll]
  have some_ : ((ps.map ptP).findIdx? fun z => PyData.eqv z (ptP p)).isSome = true := by
    rw [List.findIdx?_isSome, List.any_map, List.any_eq_true]
    refine ⟨p, h, ?_⟩
    show PyData.eqv (PyData.tuple [.int p.1, .int p.2]) (PyData.tuple [.int p.1, .int p.2]) = true
    simp [PyData.eqv, PyData.eqvAll]
  obtain ⟨j, hj⟩ := Option.isSome_iff_exists.mp some_
  obtain ⟨hl, _⟩ := List.findIdx?_eq_some_iff_getElem.mp hj
  refine ⟨j, by simpa using hl, ?_⟩
  unfold indexD
  rw [e1, e2]
  simp only [if_pos sh]
  rw [hj]
  rfl
/-! ### backwards -/
theorem rpos_from (n j : Nat) (h : j < n) : rpos n (some (j : Int)) none = (List.range (j + 1)).map fun m => j - m := by
  unfold rpos
  have e : Builtin.Slice.sliceAdjust (some (j : Int)) none (-1) (n : Int) = ((j : Int), -1) := by
    unfold Builtin.Slice.sliceAdjust
    simp only
    refine Prod.ext ?_ ?_
    · simp only
      rw [if_neg (by omega), if_pos (by omega)]
      omega
    · rfl
  rw [e]
  have p : Builtin.Slice.slicePlaces (j : Int) (-1) (-1) = j + 1 := by
    unfold Builtin.Slice.slicePlaces
    rw [if_neg (by omega), if_pos (by omega)]
    have : ((j : Int) - -1 - 1) / (- (-1 : Int)) = j := by simp
    rw [this]
    omega
  simp only [p]
  apply List.map_congr_left
  intro m hm
  rw [List.mem_range] at hm
  omega
theorem rpos_to (n j : Nat) (h : j < n) : rpos n none (some (j : Int)) = (List.range (n - 1 - j)).map fun m => n - 1 - m := by
  unfold rpos
  have e : Builtin.Slice.sliceAdjust none (some (j : Int)) (-1) (n : Int) = ((n : Int) - 1, (j : Int)) := by
    unfold Builtin.Slice.sliceAdjust
    simp only
    refine Prod.ext ?_ ?_
    · rfl
    · simp only
      rw [if_neg (by omega), if_pos (by omega)]
      omega
  rw [e]
  have p : Builtin.Slice.slicePlaces ((n : Int) - 1) (j : Int) (-1) = n - 1 - j := by
    unfold Builtin.Slice.slicePlaces
    rw [if_neg (by omega)]
    by_cases q : (n : Int) - 1 > j
    · rw [if_pos q]
      have : ((n : Int) - 1 - j - 1) / (- (-1 : Int)) = (n : Int) - 1 - j - 1 := by simp
      rw [this]
      omega
    · rw [if_neg q]
      omega
  simp only [p]
  apply List.map_congr_left
  intro m hm
  rw [List.mem_range] at hm
  omega
theorem pick_down {α : Type} (xs : List α) (k : Nat) : ∀ c, c ≤ k + 1 → k < xs.length → ((List.range c).map fun m => k - m).filterMap (xs[·]?) = ((xs.take (k + 1)).drop (k + 1 - c)).reverse
  | 0, _, hk => by
    rw [Nat.sub_zero, List.drop_of_length_le (by rw [List.length_take]; omega)]
    rfl
  | c + 1, hc, hk => by
    rw [List.range_succ, List.map_append, List.filterMap_append, pick_down xs k c (by omega) hk]
    have g : xs[k - c]? = some xs[k - c] := List.getElem?_eq_getElem (by omega)
    have e : (xs.take (k + 1)).drop (k + 1 - (c + 1)) = xs[k - c] :: (xs.take (k + 1)).drop (k + 1 - c) := by
      have hl : k + 1 - (c + 1) < (xs.take (k + 1)).length := by simp; omega
      rw [List.drop_eq_getElem_cons hl, List.getElem_take]
      have h1 : k + 1 - (c + 1) = k - c := by omega
      have h2 : k + 1 - (c + 1) + 1 = k + 1 - c := by omega
      simp only [h1] at *
      rw [show k - c + 1 = k + 1 - c by omega]
    rw [e, List.reverse_cons]
    simp [g]
theorem rcut_from {α : Type} (xs : List α) (j : Nat) (h : j < xs.length) : rcut xs (some (j : Int)) none = (xs.take (j + 1)).reverse := by
  unfold rcut
  rw [rpos_from _ _ h, pick_down xs j (j + 1) (by omega) h, Nat.sub_self, List.drop_zero]
theorem rcut_to {α : Type} (xs : List α) (j : Nat) (h : j < xs.length) : rcut xs none (some (j : Int)) = (xs.drop (j + 1)).reverse := by
  unfold rcut
  rw [rpos_to _ _ h, pick_down xs (xs.length - 1) (xs.length - 1 - j) (by omega) (by omega)]
  rw [List.take_of_length_le (by omega)]
  congr 2
  omega
end PyI

/-! maps and points: what no table is needed for -/
namespace KK
open PySem PyI FS
open NG (Pt at' nx pr)
/-- all six below 2^k -/
def Sx (k : Nat) (s : Six) : Prop := Sm k s.a ∧ Sm k s.b ∧ Sm k s.c ∧ Sm k s.d ∧ Sm k s.e ∧ Sm k s.f
abbrev gm (s : Six) : D := .ins 21 [s.tup]
theorem smNeg {k : Nat} {i : Int} (h : Sm k i) : Sm k (-i) := by unfold Sm at *; rw [Int.natAbs_neg]; exact h
theorem smSub {k : Nat} {i j : Int} (h : Sm k i) (h2 : Sm k j) : Sm (k + 1) (i - j) := by rw [Int.sub_eq_add_neg]; exact h.add (smNeg h2)
theorem sx_comp {k l : Nat} {x y : Six} (hx : Sx k x) (hy : Sx l y) : Sx (k + l + 2) (comp x y) := by
  obtain ⟨a, b, c, d, e, f⟩ := hx
  obtain ⟨p, q, r, s, t, u⟩ := hy
  refine ⟨?_, ?_, ?_, ?_, ?_, ?_⟩ <;> simp only [comp]
  · exact ((p.mul a).add (q.mul c)).le (by omega)
  · exact ((p.mul b).add (q.mul d)).le (by omega)
  · exact ((r.mul a).add (s.mul c)).le (by omega)
  · exact ((r.mul b).add (s.mul d)).le (by omega)
  · exact ((((p.mul e).add (q.mul f)).le (by omega : l + k + 1 ≤ k + l + 1)).add (t.le (by omega))).le (by omega)
  · exact ((((r.mul e).add (s.mul f)).le (by omega : l + k + 1 ≤ k + l + 1)).add (u.le (by omega))).le (by omega)
instance : Enc Six where
  enc := Six.tup
  pd := fun s => .tuple [.int s.a, .int s.b, .int s.c, .int s.d, .int s.e, .int s.f]
  toP := fun _ => by simp only [Six.tup, D.toP, toPs, Option.map_some]
  lay := fun _ => by simp only [PyData.canLay0, PyData.canLayAll0, Bool.and_self]
  dep := 1
  depth := fun _ => by simp only [PyData.depth, PyData.depthAll]; omega
  eqv := fun x y => by
    simp only [PyData.eqv, PyData.eqvAll, Bool.and_eq_true, beq_iff_eq, and_true]
    constructor
    · rintro ⟨h1, h2, h3, h4, h5, h6⟩
      exact Six.ext' h1 h2 h3 h4 h5 h6
    · rintro rfl
      exact ⟨rfl, rfl, rfl, rfl, rfl, rfl⟩
theorem eqD_six (x y : Six) : eqD x.tup y.tup = some (decide (x = y)) := eqD_enc (α := Six) x y (by decide)
theorem sx_id : Sx 1 id6 := by refine ⟨?_, ?_, ?_, ?_, ?_, ?_⟩ <;> (unfold Sm; decide)
theorem sx_le {k l : Nat} {x : Six} (h : Sx k x) (hl : k ≤ l) : Sx l x := ⟨h.1.le hl, h.2.1.le hl, h.2.2.1.le hl, h.2.2.2.1.le hl, h.2.2.2.2.1.le hl, h.2.2.2.2.2.le hl⟩
theorem cls_tup (s : Six) (M : Mem) : clsOf (.d s.tup) M = none := rfl
theorem ident : D.tup [D.int 1, D.int 0, D.int 0, D.int 1, D.int 0, D.int 0] = id6.tup := rfl
abbrev Unit6 (s : Six) : Prop := s.det = 1 ∨ s.det = -1
theorem in_pm (i : Int) : inD (.int i) (.tup [.int 1, .int (-1)]) = some (decide (i = 1 ∨ i = -1)) := by
  have e1 : PyData.eqv (.int 1) (.int i) = decide (i = 1) := by
    simp only [PyData.eqv]
    by_cases h : i = 1
    · subst h; rfl
    · rw [decide_eq_false h]; simpa using fun z : (1 : Int) = i => h z.symm
  have e2 : PyData.eqv (.int (-1)) (.int i) = decide (i = -1) := by
    simp only [PyData.eqv]
    by_cases h : i = -1
    · subst h; rfl
    · rw [decide_eq_false h]; simpa using fun z : (-1 : Int) = i => h z.symm
  simp [inD, flatD, D.toP, toPs, e1, e2]
/-! ### the drawn numbers -/
def lin (s : Six) : D := .tup [.int s.a, .int s.b, .int s.c, .int s.d]
theorem fac_mem {v : Int} (hv : Sm 5 v) {a : D} (h : a ∈ [D.tup [.int 1, .int v, .int 0, .int 1], .tup [.int 1, .int 0, .int v, .int 1], .tup [.int 0, .int (-1), .int 1, .int 0], .tup [.int 1, .int 0, .int 0, .int (-1)], .tup [.int 0, .int 1, .int 1, .int 0]]) : ∃ s : Six, a = lin s ∧ Sx 6 s ∧ Unit6 s := by
  have sm : ∀ i : Int, i = 0 ∨ i = 1 ∨ i = -1 → Sm 6 i := fun i h => by rcases h with rfl | rfl | rfl <;> (unfold Sm; decide)
  have hv := hv.le (show 5 ≤ 6 by decide)
  simp only [List.mem_cons, List.not_mem_nil, or_false] at h
  rcases h with rfl | rfl | rfl | rfl | rfl
  · exact ⟨⟨1, v, 0, 1, 0, 0⟩, rfl, ⟨sm _ (by simp), hv, sm _ (by simp), sm _ (by simp), sm _ (by simp), sm _ (by simp)⟩, .inl (by simp [Six.det])⟩
  · exact ⟨⟨1, 0, v, 1, 0, 0⟩, rfl, ⟨sm _ (by simp), sm _ (by simp), hv, sm _ (by simp), sm _ (by simp), sm _ (by simp)⟩, .inl (by simp [Six.det])⟩
  · exact ⟨⟨0, -1, 1, 0, 0, 0⟩, rfl, ⟨sm _ (by simp), sm _ (by simp), sm _ (by simp), sm _ (by simp), sm _ (by simp), sm _ (by simp)⟩, .inl (by simp [Six.det])⟩
  · exact ⟨⟨1, 0, 0, -1, 0, 0⟩, rfl, ⟨sm _ (by simp), sm _ (by simp), sm _ (by simp), sm _ (by simp), sm _ (by simp), sm _ (by simp)⟩, .inr (by simp [Six.det])⟩
  · exact ⟨⟨0, 1, 1, 0, 0, 0⟩, rfl, ⟨sm _ (by simp), sm _ (by simp), sm _ (by simp), sm _ (by simp), sm _ (by simp), sm _ (by simp)⟩, .inr (by simp [Six.det])⟩
abbrev pt (x y : Int) : D := .tup [.int x, .int y]
@[simp] theorem eqD_pt (a b c d : Int) : eqD (.tup [.int a, .int b]) (.tup [.int c, .int d]) = some (decide (a = c ∧ b = d)) := by
  have := eqD_enc (α := Int × Int) (a, b) (c, d) (by decide)
  simp only [Prod.mk.injEq] at this
  exact this
def img (s : Six) (p : Pt) : Pt := (s.a * p.1 + s.b * p.2 + s.e, s.c * p.1 + s.d * p.2 + s.f)
def Sp (k : Nat) (p : Pt) : Prop := Sm k p.1 ∧ Sm k p.2
theorem Sp.le {k l : Nat} {p : Pt} (h : Sp k p) (hl : k ≤ l) : Sp l p := ⟨h.1.le hl, h.2.le hl⟩
theorem szl {n : Nat} (h : n ≤ 1000) : n ≤ sizeLine := Evl.sz_of (Nat.le_trans h (by decide))
theorem szlt {n : Nat} (h : n < 1000) : n < sizeLine := szl (n := n + 1) h
theorem sp_img {k l : Nat} {s : Six} {p : Pt} (hs : Sx k s) (hp : Sp l p) : Sp (k + l + 2) (img s p) := by
  obtain ⟨a, b, c, d, e, f⟩ := hs
  exact ⟨(((a.mul hp.1).add (b.mul hp.2)).add (e.le (by omega))).le (by omega), (((c.mul hp.1).add (d.mul hp.2)).add (f.le (by omega))).le (by omega)⟩
end KK

/-! bodies of defs; what is raised is left open -/
namespace PG
open PySem PyI
/-- edge_steps -/
def b84 : ISs := (.cons (.ret (.lc (.tp [(.tp [(.nm 1), (.nm 2)]), (.tp [(.nm 3), (.nm 4)])]) [1, 2, 3, 4] (.zip (.cons (.var 0) (.cons (.op .add (.cons (.op (.slice true false) (.cons (.var 0) (.cons (.anint (.cst (.int (1)))) .nil))) (.cons (.op (.slice false true) (.cons (.var 0) (.cons (.anint (.cst (.int (1)))) .nil))) .nil))) .nil))) .nil (.op .tup (.cons (.op .sub (.cons (.var 3) (.cons (.var 1) .nil))) (.cons (.op .sub (.cons (.var 4) (.cons (.var 2) .nil))) .nil))))) .nil)
def F84 : Fn := { np := 1, star := false, ns := 5, body := b84, keep := false }
/-- corner_turns -/
def b85 : ISs := (.cons (.ret (.lc (.tp [(.tp [(.nm 1), (.nm 2)]), (.tp [(.nm 3), (.nm 4)])]) [1, 2, 3, 4] (.zip (.cons (.op .add (.cons (.op (.slice true false) (.cons (.var 0) (.cons (.anint (.op .neg (.cons (.cst (.int (1))) .nil))) .nil))) (.cons (.op (.slice false true) (.cons (.var 0) (.cons (.anint (.op .neg (.cons (.cst (.int (1))) .nil))) .nil))) .nil))) (.cons (.var 0) .nil))) .nil (.op .sub (.cons (.op .mul (.cons (.var 1) (.cons (.var 4) .nil))) (.cons (.op .mul (.cons (.var 2) (.cons (.var 3) .nil))) .nil))))) .nil)
def F85 : Fn := { np := 1, star := false, ns := 5, body := b85, keep := false }
/-- goes_round_once -/
def b86 (e0 u0 : List (Nat × Nat)) : ISs := (.cons (.ife (.chain .lt .lt (.op .minl (.cons (.var 1) .nil)) (.cst (.int (0))) (.op .maxl (.cons (.var 1) .nil))) (.cons (.ret (.cst (.bl false))) .nil) .nil) (.cons (.ife (.op .lt (.cons (.op .len (.cons (.var 1) .nil)) (.cons (.cst (.int (5))) .nil))) (.cons (.ret (.cst (.bl true))) .nil) .nil) (.cons (.set (.nm 2) (.lc (.nm 4) [4] (.seq (.var 0)) .nil (.op .gt (.cons (.var 4) (.cons (.op .tup (.cons (.cst (.int (0))) (.cons (.cst (.int (0))) .nil))) .nil))))) (.cons (.set (.nm 3) (.lc (.tp [(.nm 5), (.nm 6)]) [5, 6] (.zip (.cons (.var 2) (.cons (.op .add (.cons (.op (.slice true false) (.cons (.var 2) (.cons (.anint (.cst (.int (1)))) .nil))) (.cons (.op (.slice false true) (.cons (.var 2) (.cons (.anint (.cst (.int (1)))) .nil))) .nil))) .nil))) .nil (.eqo true e0 u0 (.var 5) (.var 6)))) (.cons (.ret (.op .eq (.cons (.op .sum (.cons (.var 3) .nil)) (.cons (.cst (.int (2))) .nil)))) .nil)))))
def F86 (e0 u0 : List (Nat × Nat)) : Fn := { np := 2, star := false, ns := 7, body := b86 e0 u0, keep := false }
/-- double_area_of -/
def b125 : ISs := (.cons (.ret (.op .sum (.cons (.lc (.tp [(.tp [(.nm 1), (.nm 2)]), (.tp [(.nm 3), (.nm 4)])]) [1, 2, 3, 4] (.zip (.cons (.var 0) (.cons (.op .add (.cons (.op (.slice true false) (.cons (.var 0) (.cons (.anint (.cst (.int (1)))) .nil))) (.cons (.op (.slice false true) (.cons (.var 0) (.cons (.anint (.cst (.int (1)))) .nil))) .nil))) .nil))) .nil (.op .mul (.cons (.op .add (.cons (.var 1) (.cons (.var 3) .nil))) (.cons (.op .sub (.cons (.var 4) (.cons (.var 2) .nil))) .nil)))) .nil))) .nil)
def F125 : Fn := { np := 1, star := false, ns := 5, body := b125, keep := false }
/-- area_and_border -/
def b148 : ISs := (.cons (.asg2 1 2 (.cst (.int (0)))) (.cons (.set (.tp [(.nm 3), (.nm 4)]) (.op .ix (.cons (.var 0) (.cons (.op .neg (.cons (.cst (.int (1))) .nil)) .nil)))) (.cons (.for (.tp [(.nm 5), (.nm 6)]) (.seq (.var 0)) (.cons (.par [7, 8] (.cons (.op .sub (.cons (.var 5) (.cons (.var 3) .nil))) (.cons (.op .sub (.cons (.var 6) (.cons (.var 4) .nil))) .nil))) (.cons (.set (.nm 1) (.op .add (.cons (.var 1) (.cons (.op .mul (.cons (.op .add (.cons (.var 3) (.cons (.var 5) .nil))) (.cons (.var 8) .nil))) .nil)))) (.cons (.whl (.op .ne (.cons (.var 8) (.cons (.cst (.int (0))) .nil))) (.cons (.par [7, 8] (.cons (.var 8) (.cons (.op .mod (.cons (.var 7) (.cons (.var 8) .nil))) .nil))) .nil)) (.cons (.set (.nm 2) (.op .add (.cons (.var 2) (.cons (.op .abs (.cons (.var 7) .nil)) .nil)))) (.cons (.par [3, 4] (.cons (.var 5) (.cons (.var 6) .nil))) .nil)))))) (.cons (.ret (.op .tup (.cons (.var 1) (.cons (.var 2) .nil)))) .nil))))
def F148 : Fn := { np := 1, star := false, ns := 9, body := b148, keep := false }
/-- need_integer -/
def b70 (r0 : ISs) : ISs := (.cons (.ife (.or (.not (.op (.isi [.int]) (.cons (.var 0) .nil))) (.or (.op .is (.cons (.var 0) (.cons (.cst (.bl true)) .nil))) (.op .is (.cons (.var 0) (.cons (.cst (.bl false)) .nil))))) r0 .nil) .nil)
def F70 (r0 : ISs) : Fn := { np := 1, star := false, ns := 1, body := b70 r0, keep := false }
/-- need_at_least -/
def b149 (r0 : ISs) : ISs := (.cons (.drop (.call 70 (.cons (.var 0) .nil))) (.cons (.ife (.op .lt (.cons (.var 0) (.cons (.var 1) .nil))) r0 .nil) .nil))
def F149 (r0 : ISs) : Fn := { np := 2, star := false, ns := 2, body := b149 r0, keep := false }
/-- common_divisor -/
def b3 : ISs := (.cons (.whl (.op .ne (.cons (.var 1) (.cons (.cst (.int (0))) .nil))) (.cons (.par [0, 1] (.cons (.var 1) (.cons (.op .mod (.cons (.var 0) (.cons (.var 1) .nil))) .nil))) .nil)) (.cons (.ret (.op .abs (.cons (.var 0) .nil))) .nil))
def F3 : Fn := { np := 2, star := false, ns := 2, body := b3, keep := false }
/-- is_point -/
def b37 : ISs := (.cons (.ret (.op .is (.cons (.call 38 (.cons (.op .lst (.cons (.var 0) .nil)) .nil)) (.cons (.cst .non) .nil)))) .nil)
def F37 : Fn := { np := 1, star := false, ns := 1, body := b37, keep := false }
/-- first_wrong_point -/
def b38 : ISs := (.cons (.for (.tp [(.nm 1), (.nm 2)]) (.enum (.cons (.var 0) .nil)) (.cons (.ife (.or (.not (.op (.isi [.tuple]) (.cons (.var 2) .nil))) (.op .ne (.cons (.op .len (.cons (.var 2) .nil)) (.cons (.cst (.int (2))) .nil)))) (.cons (.ret (.var 1)) .nil) .nil) (.cons (.set (.tp [(.nm 3), (.nm 4)]) (.var 2)) (.cons (.ife (.or (.not (.op (.isi [.int]) (.cons (.var 3) .nil))) (.not (.op (.isi [.int]) (.cons (.var 4) .nil)))) (.cons (.ret (.var 1)) .nil) .nil) (.cons (.ife (.or (.op .is (.cons (.var 3) (.cons (.cst (.bl true)) .nil))) (.or (.op .is (.cons (.var 3) (.cons (.cst (.bl false)) .nil))) (.or (.op .is (.cons (.var 4) (.cons (.cst (.bl true)) .nil))) (.op .is (.cons (.var 4) (.cons (.cst (.bl false)) .nil)))))) (.cons (.ret (.var 1)) .nil) .nil) .nil))))) (.cons (.ret (.cst .non)) .nil))
def F38 : Fn := { np := 1, star := false, ns := 5, body := b38, keep := false }
/-- need_point -/
def b39 (r0 : ISs) : ISs := (.cons (.ife (.not (.call 37 (.cons (.var 0) .nil))) r0 .nil) .nil)
def F39 (r0 : ISs) : Fn := { np := 1, star := false, ns := 1, body := b39 r0, keep := false }
/-- content -/
def b42 : ISs := (.cons (.drop (.call 39 (.cons (.var 0) .nil))) (.cons (.ret (.call 3 (.cons (.op .ix (.cons (.var 0) (.cons (.cst (.int (0))) .nil))) (.cons (.op .ix (.cons (.var 0) (.cons (.cst (.int (1))) .nil))) .nil)))) .nil))
def F42 : Fn := { np := 1, star := false, ns := 1, body := b42, keep := false }
/-- Polygon.__init__ -/
def b91 : ISs := (.cons (.setfs 0 [10, 11, 12] (.call 112 (.cons (.var 1) .nil))) .nil)
def F91 : Fn := { np := 2, star := false, ns := 2, body := b91, keep := false }
/-- Polygon.corners -/
def b92 : ISs := (.cons (.ret (.fld 10 [(23, 0), (24, 0)] (.var 0))) .nil)
def F92 : Fn := { np := 1, star := false, ns := 1, body := b92, keep := false }
/-- Polygon.double_area -/
def b93 : ISs := (.cons (.ret (.call 125 (.cons (.fld 10 [(23, 0), (24, 0)] (.var 0)) .nil))) .nil)
def F93 : Fn := { np := 1, star := false, ns := 1, body := b93, keep := false }
/-- Polygon.inner_points -/
def b95 : ISs := (.cons (.set (.tp [(.nm 1), (.nm 2)]) (.call 148 (.cons (.fld 10 [(23, 0), (24, 0)] (.var 0)) .nil))) (.cons (.ret (.op .fdiv (.cons (.op .add (.cons (.op .sub (.cons (.var 1) (.cons (.var 2) .nil))) (.cons (.cst (.int (2))) .nil))) (.cons (.cst (.int (2))) .nil)))) .nil))
def F95 : Fn := { np := 1, star := false, ns := 3, body := b95, keep := false }
/-- Polygon.total_points -/
def b96 : ISs := (.cons (.set (.tp [(.nm 1), (.nm 2)]) (.call 148 (.cons (.fld 10 [(23, 0), (24, 0)] (.var 0)) .nil))) (.cons (.ret (.op .fdiv (.cons (.op .add (.cons (.op .add (.cons (.var 1) (.cons (.var 2) .nil))) (.cons (.cst (.int (2))) .nil))) (.cons (.cst (.int (2))) .nil)))) .nil))
def F96 : Fn := { np := 1, star := false, ns := 3, body := b96, keep := false }
/-- ConvexPolygon.__init__ -/
def b105 (r0 : ISs) : ISs := (.cons (.drop (.call 91 (.cons (.var 0) (.cons (.var 1) .nil)))) (.cons (.ife (.not (.fld 11 [(23, 1), (24, 1)] (.var 0))) r0 .nil) .nil))
def F105 (r0 : ISs) : Fn := { np := 2, star := false, ns := 2, body := b105 r0, keep := false }
/-- need_polygon -/
def b151 (r0 : ISs) : ISs := (.cons (.ife (.not (.op (.isi [(.own 23 [23, 24])]) (.cons (.var 0) .nil))) r0 .nil) .nil)
def F151 (r0 : ISs) : Fn := { np := 1, star := false, ns := 1, body := b151 r0, keep := false }
/-- need_corners -/
def b111 (r0 : ISs) (r1 : ISs) (r2 : ISs) : ISs := (.cons (.ife (.not (.op (.isi [.list, .tuple]) (.cons (.var 0) .nil))) r0 .nil) (.cons (.ife (.not (.chain .le .le (.cst (.int (3))) (.op .len (.cons (.var 0) .nil)) (.cst (.int (60))))) r1 .nil) (.cons (.set (.nm 1) (.call 38 (.cons (.var 0) .nil))) (.cons (.ife (.op .isnot (.cons (.var 1) (.cons (.cst .non) .nil))) r2 .nil) .nil))))
def F111 (r0 : ISs) (r1 : ISs) (r2 : ISs) : Fn := { np := 1, star := false, ns := 2, body := b111 r0 r1 r2, keep := false }
/-- known_of -/
def b112 (r0 : ISs) (r1 : ISs) : ISs := (.cons (.ife (.op (.isi [(.own 22 [22])]) (.cons (.var 0) .nil)) (.cons (.ret (.fld 9 [(22, 0)] (.var 0))) .nil) .nil) (.cons (.drop (.call 111 (.cons (.var 0) .nil))) (.cons (.set (.nm 1) (.mkt (.var 0))) (.cons (.set (.nm 2) (.call 84 (.cons (.var 1) .nil))) (.cons (.set (.nm 3) (.call 85 (.cons (.var 2) .nil))) (.cons (.ife (.op .isin (.cons (.cst (.int (0))) (.cons (.var 3) .nil))) r0 .nil) (.cons (.set (.nm 4) (.call 86 (.cons (.var 2) (.cons (.var 3) .nil)))) (.cons (.ife (.not (.var 4)) r1 .nil) (.cons (.set (.nm 5) (.idx (.var 1) (.op .minl (.cons (.var 1) .nil)))) (.cons (.ife (.op .gt (.cons (.op .ix (.cons (.var 3) (.cons (.var 5) .nil))) (.cons (.cst (.int (0))) .nil))) (.cons (.set (.nm 6) (.op .tup (.cons (.op .add (.cons (.op (.slice true false) (.cons (.var 2) (.cons (.anint (.var 5)) .nil))) (.cons (.op (.slice false true) (.cons (.var 2) (.cons (.anint (.var 5)) .nil))) .nil))) (.cons (.op .add (.cons (.op (.slice true false) (.cons (.var 3) (.cons (.anint (.var 5)) .nil))) (.cons (.op (.slice false true) (.cons (.var 3) (.cons (.anint (.var 5)) .nil))) .nil))) .nil)))) (.cons (.ret (.op .tup (.cons (.op .add (.cons (.op (.slice true false) (.cons (.var 1) (.cons (.anint (.var 5)) .nil))) (.cons (.op (.slice false true) (.cons (.var 1) (.cons (.anint (.var 5)) .nil))) .nil))) (.cons (.var 4) (.cons (.var 6) .nil))))) .nil)) .nil) (.cons (.ret (.op .tup (.cons (.call 114 (.cons (.var 1) (.cons (.var 5) .nil))) (.cons (.var 4) (.cons (.cst .non) .nil))))) .nil)))))))))))
def F112 (r0 : ISs) (r1 : ISs) : Fn := { np := 1, star := false, ns := 7, body := b112 r0 r1, keep := false }
/-- backwards -/
def b114 : ISs := (.cons (.ret (.op .add (.cons (.op (.rslice true false) (.cons (.var 0) (.cons (.anint (.var 1)) .nil))) (.cons (.op (.rslice false true) (.cons (.var 0) (.cons (.anint (.var 1)) .nil))) .nil)))) .nil)
def F114 : Fn := { np := 2, star := false, ns := 2, body := b114, keep := false }
/-- multiple_counts -/
def b152 : ISs := (.cons (.drop (.call 151 (.cons (.var 0) .nil))) (.cons (.drop (.call 149 (.cons (.var 1) (.cons (.cst (.int (1))) .nil)))) (.cons (.set (.tp [(.nm 2), (.nm 3)]) (.call 148 (.cons (.prop [(23, 92), (24, 92)] (.var 0)) .nil))) (.cons (.par [2, 3] (.cons (.op .mul (.cons (.op .mul (.cons (.var 2) (.cons (.var 1) .nil))) (.cons (.var 1) .nil))) (.cons (.op .mul (.cons (.var 3) (.cons (.var 1) .nil))) .nil))) (.cons (.ret (.op .tup (.cons (.op .add (.cons (.op .fdiv (.cons (.op .add (.cons (.var 2) (.cons (.var 3) .nil))) (.cons (.cst (.int (2))) .nil))) (.cons (.cst (.int (1))) .nil))) (.cons (.op .add (.cons (.op .fdiv (.cons (.op .sub (.cons (.var 2) (.cons (.var 3) .nil))) (.cons (.cst (.int (2))) .nil))) (.cons (.cst (.int (1))) .nil))) .nil)))) .nil)))))
def F152 : Fn := { np := 2, star := false, ns := 4, body := b152, keep := false }
end PG

/-! polygons of any number of corners: the program's defs on rows -/
namespace KK
open PySem PyI FS
open NG (Pt at' nx pr dif crs orient)
def IsT (v : Val) (M : Mem) (xs : List D) : Prop := v = .d (.tup xs) ∨ ∃ k, v = .rf k ∧ M[k]? = some (.tup xs)
section
variable {v : Val} {M : Mem} {xs : List D}
theorem IsT.see (h : IsT v M xs) : v.see M = some (.tup xs) := by
  rcases h with rfl | ⟨k, rfl, e⟩
  · rfl
  · simp [Val.see, e]
theorem IsT.hold (h : IsT v M xs) : v.hold M = some (.tup xs, M) := by
  rcases h with rfl | ⟨k, rfl, e⟩
  · rfl
  · simp [Val.hold, e]
theorem IsT.op (h : IsT v M xs) (o : Op) (y : D) (ho : o.keeps = false) : runOp o [v, .d y] M = (opD o [.tup xs, y]).map fun x => .ok (.d x) M := by
  unfold runOp
  rw [ho]
  simp [sees, h.see]
theorem IsT.op1 (h : IsT v M xs) (o : Op) (ho : o.keeps = false) : runOp o [v] M = (opD o [.tup xs]).map fun x => .ok (.d x) M := by
  unfold runOp
  rw [ho]
  simp [sees, h.see]
theorem IsT.zip (h : IsT v M xs) (ys : List D) : runZip [v, .d (.tup ys)] M = some (.ok (zipL xs ys) M) := by
  unfold runZip
  simp [holds, h.hold]
theorem IsT.seq (h : IsT v M xs) : runSeq v M = some (.ok xs M) := by
  unfold runSeq
  simp [h.hold]
end
theorem map_rn (P : List Pt) : P.map ptD = rn P.length fun i => ptD (at' P i) := by
  conv => lhs; rw [rn_at P]
  rw [rn_map]
@[simp] theorem opD_slF (xs : List D) (i : Int) : opD (.slice true false) [.tup xs, .int i] = some (.tup (cutD xs (some i) none)) := rfl
@[simp] theorem opD_slT (xs : List D) (i : Int) : opD (.slice false true) [.tup xs, .int i] = some (.tup (cutD xs none (some i))) := rfl
@[simp] theorem opD_slFl (xs : List D) (i : Int) : opD (.slice true false) [.lst xs, .int i] = some (.lst (cutD xs (some i) none)) := rfl
@[simp] theorem opD_slTl (xs : List D) (i : Int) : opD (.slice false true) [.lst xs, .int i] = some (.lst (cutD xs none (some i))) := rfl
@[simp] theorem opD_rsF (xs : List D) (i : Int) : opD (.rslice true false) [.tup xs, .int i] = some (.tup (rcut xs (some i) none)) := rfl
@[simp] theorem opD_rsT (xs : List D) (i : Int) : opD (.rslice false true) [.tup xs, .int i] = some (.tup (rcut xs none (some i))) := rfl
theorem cutF1 (n : Nat) (f : Nat → D) : cutD (rn n f) (some 1) none = (rn n f).tail := (cut_from (rn n f) 1).trans (by simp)
theorem cutT1 (n : Nat) (f : Nat → D) : cutD (rn n f) none (some 1) = (rn n f).take 1 := cut_to (rn n f) 1
theorem addRotT (n : Nat) (f : Nat → D) (h1 : 1 ≤ n) (h2 : n ≤ 900) : opD .add [.tup (rn n f).tail, .tup ((rn n f).take 1)] = some (.tup (rn n fun i => f (nx n i))) := by
  rw [opD_addT _ _ (by simp [rn_len]; omega)]
  have := rn_rotl n f h1
  rw [List.drop_one] at this
  rw [this]
theorem addRotL (n : Nat) (f : Nat → D) (h1 : 1 ≤ n) (h2 : n ≤ 900) : opD .add [.lst (rn n f).tail, .lst ((rn n f).take 1)] = some (.lst (rn n fun i => f (nx n i))) := by
  rw [opD_addL _ _ (by simp [rn_len]; omega)]
  have := rn_rotl n f h1
  rw [List.drop_one] at this
  rw [this]
theorem cutFm (n : Nat) (f : Nat → D) (h1 : 1 ≤ n) : cutD (rn n f) (some (-1)) none = (rn n f).drop (n - 1) := by
  rw [cut_fm _ (by rw [rn_len]; exact h1), rn_len]
theorem cutTm (n : Nat) (f : Nat → D) (h1 : 1 ≤ n) : cutD (rn n f) none (some (-1)) = (rn n f).take (n - 1) := by
  rw [cut_tm _ (by rw [rn_len]; exact h1), rn_len]
theorem addRotR (n : Nat) (f : Nat → D) (h1 : 1 ≤ n) (h2 : n ≤ 900) : opD .add [.lst ((rn n f).drop (n - 1)), .lst ((rn n f).take (n - 1))] = some (.lst (rn n fun i => f (pr n i))) := by
  rw [opD_addL _ _ (by simp [rn_len]; omega), rn_rotr n f h1]
/-- the differences -/
def stp_ (P : List Pt) (i : Nat) : Pt := dif (at' P i) (at' P (nx P.length i))
def trn (P : List Pt) (i : Nat) : Int := orient (at' P (pr P.length i)) (at' P i) (at' P (nx P.length i))
theorem trn_eq (P : List Pt) {i : Nat} (hi : i < P.length) : crs (stp_ P (pr P.length i)) (stp_ P i) = trn P i := by
  unfold stp_ trn
  rw [NG.nx_pr hi]
  exact NG.crs_dif _ _ _
section
variable {T : Tab}
theorem r84 (t84 : T 84 = some PG.F84) (l : Nat) (P : List Pt) (M : Mem) (v : Val) (hv : IsT v M (P.map ptD)) (h1 : 1 ≤ P.length) (h2 : P.length ≤ 900) :
    callD T (l + 1) 84 [v] M = some (.ok (.d (.lst (rn P.length fun i => ptD (stp_ P i)))) M) := by
  rw [call_eq t84 rfl l _ _ rfl]
  rw [map_rn] at hv
  have o1 := hv.op (.slice true false) (.int 1) rfl
  have o2 := hv.op (.slice false true) (.int 1) rfl
  simp only [opD_slF, opD_slT, cutF1, cutT1, Option.map_some] at o1 o2
  have ad := addRotT _ (fun i => ptD (at' P i)) h1 h2
  have z := hv.zip (rn P.length fun i => ptD (at' P (nx P.length i)))
  rw [zipL_rn] at z
  simp [PG.F84, PG.b84, startE, o1, o2, ad, z]
  rw [runLc_rn P.length _ (fun i => ptD (stp_ P i)) M (fun i hi => ⟨_, by simp [wipeE, ptD]; rfl, by simp [stp_, dif, ptD]⟩) (by omega)]
  simp
theorem r85 (t85 : T 85 = some PG.F85) (l : Nat) (n : Nat) (f : Nat → Pt) (M : Mem) {k : Nat} (hk : k ≤ 300000) (hf : ∀ i, i < n → Sp k (f i)) (h1 : 1 ≤ n) (h2 : n ≤ 900) :
    callD T (l + 1) 85 [.d (.lst (rn n fun i => ptD (f i)))] M = some (.ok (.d (.lst (rn n fun i => .int (crs (f (pr n i)) (f i))))) M) := by
  rw [call_eq t85 rfl l _ _ rfl]
  have ad := addRotR n (fun i => ptD (f i)) h1 h2
  simp [PG.F85, PG.b85, startE, cutFm _ _ h1, cutTm _ _ h1, ad, zipL_rn]
  rw [runLc_rn n _ (fun i => .int (crs (f (pr n i)) (f i))) M (fun i hi => ⟨_, by simp [wipeE, ptD]; rfl, by
    have a := hf _ (NG.pr_lt hi)
    have b := hf i hi
    simp [crs, opD_mulB a.1 b.2 (by omega) (by omega), opD_mulB a.2 b.1 (by omega) (by omega)]⟩) (by omega)]
  simp
end
end KK

/-! polygons of any number of corners: they are made -/
namespace KK
open PySem PyI FS
open NG (Pt at' nx pr dif crs orient pos Cvx)
theorem enumL_mem : ∀ {xs : List D} {k : Nat} {x : D}, x ∈ enumL k xs → ∃ (i : Nat) (y : D), x = .tup [.int i, y] ∧ y ∈ xs
  | [], k, x, h => by cases h
  | y :: ys, k, x, h => by
    unfold enumL at h
    rcases List.mem_cons.mp h with rfl | h
    · exact ⟨k, y, rfl, List.mem_cons_self⟩
    · obtain ⟨i, z, h1, h2⟩ := enumL_mem h
      exact ⟨i, z, h1, List.mem_cons_of_mem _ h2⟩
theorem mem_at {P : List Pt} {p : Pt} (h : p ∈ P) : ∃ i, i < P.length ∧ at' P i = p := by
  obtain ⟨i, hi, e⟩ := List.getElem_of_mem h
  refine ⟨i, hi, ?_⟩
  unfold at'
  rw [List.getD_eq_getElem?_getD, List.getElem?_eq_getElem hi, e]
  rfl
theorem at_mem {P : List Pt} {i : Nat} (h : i < P.length) : at' P i ∈ P := by
  unfold at'
  rw [List.getD_eq_getElem?_getD, List.getElem?_eq_getElem h]
  exact List.getElem_mem h
/-! ### the least point -/
theorem ltP_eq (p q : Pt) : PyI.ltP p q = NG.ltP p q := rfl
theorem ltP_iff (p q : Pt) : NG.ltP p q = true ↔ pos (dif p q) := by
  unfold NG.ltP pos dif
  simp only
  split
  · rw [decide_eq_true_iff]; omega
  · rw [decide_eq_true_iff]; omega
theorem minP_low : ∀ (ps : List Pt) (p : Pt), (∀ q ∈ p :: ps, ¬ pos (dif q (minP p ps)))
  | [], p, q, h => by
    rcases List.mem_cons.mp h with rfl | h
    · show ¬ pos (dif q q)
      unfold pos dif; simp only; omega
    · cases h
  | r :: ps, p, q, h => by
    have ih := minP_low ps (if PyI.ltP r p = true then r else p)
    show ¬ pos (dif q (minP (if PyI.ltP r p = true then r else p) ps))
    have h0 := ih _ List.mem_cons_self
    have key : ∀ x, x = p ∨ x = r → ¬ pos (dif x (minP (if PyI.ltP r p = true then r else p) ps)) := by
      intro x hx
      by_cases c : PyI.ltP r p = true
      · rw [if_pos c] at h0 ⊢
        rw [ltP_eq, ltP_iff] at c
        rcases hx with rfl | rfl
        · intro z
          refine h0 (NG.pos_trans c z)
        · exact h0
      · rw [if_neg c] at h0 ⊢
        rw [ltP_eq, ltP_iff] at c
        rcases hx with rfl | rfl
        · exact h0
        · intro z
          by_cases e : x = p
          · rw [e] at z; exact h0 z
          · rcases NG.pos_tot e with w | w
            · exact c w
            · exact h0 (NG.pos_trans w z)
    rcases List.mem_cons.mp h with rfl | h
    · exact key _ (.inl rfl)
    · rcases List.mem_cons.mp h with rfl | h
      · exact key _ (.inr rfl)
      · exact ih q (List.mem_cons_of_mem _ h)
/-- the place of the least -/
structure Least (P : List Pt) (j : Nat) : Prop where
  lt : j < P.length
  low : ∀ k, k < P.length → ¬ pos (dif (at' P k) (at' P j))
theorem min_at (P : List Pt) (h : 1 ≤ P.length) : ∃ m, bestD minI minP (P.map ptD) = some (ptD m) ∧ m ∈ P ∧ ∀ q ∈ P, ¬ pos (dif q m) := by
  cases P with
  | nil => simp at h
  | cons p ps => exact ⟨minP p ps, best_pts _ _ _ _, minP_mem' ps p, minP_low ps p⟩
theorem index_at (P : List Pt) (p : Pt) (h : p ∈ P) : ∃ j : Nat, j < P.length ∧ at' P j = p ∧ indexD (P.map ptD) (ptD p) = some (.int (j : Int)) := by
  have e1 : toPs (P.map ptD) = some (P.map ptP) := toPs_map (α := Int × Int) P
  have e2 : D.toP (ptD p) = some (ptP p) := toP_ptD p
  obtain ⟨j, hj, e⟩ := index_pts P p h
  refine ⟨j, hj, ?_, e⟩
  unfold indexD at e
  rw [e1, e2] at e
  simp only at e
  split at e
  · cases q : (P.map ptP).findIdx? fun z => PyData.eqv z (ptP p) with
    | none => rw [q] at e; cases e
    | some i =>
      rw [q] at e
      have e : (i : Int) = j := by simpa using e
      have e : i = j := by omega
      subst e
      obtain ⟨hl, hq, _⟩ := List.findIdx?_eq_some_iff_getElem.mp q
      rw [List.getElem_map] at hq
      have hq := (Enc.eqv (α := Int × Int) _ _).mp hq
      unfold at'
      rw [List.getD_eq_getElem?_getD, List.getElem?_eq_getElem hj]
      exact hq
  · cases e
section
variable {T : Tab}
theorem r38 (t38 : T 38 = some PG.F38) (l : Nat) (P : List Pt) (M : Mem) : callD T (l + 1) 38 [.d (.lst (P.map ptD))] M = some (.ok (.d .non) M) := by
  rw [call_eq t38 rfl l _ _ rfl]
  obtain ⟨env', M', e1, ⟨e2, e3⟩⟩ := forL_inv (tg := .tp [.nm 1, .nm 2]) (b := denSs (callD T l) (bodyOf (hdS PG.b38))) (fun env M' => M' = M ∧ ∃ a b c d, env = [some (.d (.lst (P.map ptD))), a, b, c, d]) (xs := enumL 0 (P.map ptD)) (env := [some (.d (.lst (P.map ptD))), none, none, none, none]) (M := M) (by
    intro x hx env M1 ⟨hM, a, b, c, d, he⟩
    subst hM he
    obtain ⟨i, y, rfl, hy⟩ := enumL_mem hx
    obtain ⟨p, _, rfl⟩ := List.mem_map.mp hy
    refine ⟨_, [some (.d (.lst (P.map ptD))), some (.d (.int i)), some (.d (ptD p)), iv p.1, iv p.2], M1, by simp; rfl, ?_, rfl, _, _, _, _, rfl⟩
    simp [PG.b38, hdS, bodyOf, ptD, tyAny, tyD, isD]) ⟨rfl, _, _, _, _, rfl⟩
  subst e2
  show endFn false M'.length (denSs (callD T l) (.cons (.for (.tp [.nm 1, .nm 2]) (.enum (.cons (.var 0) .nil)) (bodyOf (hdS PG.b38))) (tlS PG.b38)) [some (.d (.lst (P.map ptD))), none, none, none, none] M') = _
  rw [stp (env1 := env') (M1 := M') (by rw [eS_for]; simpa using e1)]
  simp [PG.b38, tlS]
theorem r37 (t37 : T 37 = some PG.F37) (t38 : T 38 = some PG.F38) (l : Nat) (p : Pt) (M : Mem) : callD T (l + 2) 37 [.d (ptD p)] M = some (.ok (.d (.bl true)) M) := by
  rw [call_eq t37 rfl (l + 1) _ _ rfl]
  have e := r38 t38 l [p] M
  simp only [List.map_cons, List.map_nil] at e
  simp [PG.F37, PG.b37, startE, e, isD]
theorem r39 {r0 : ISs} (t39 : T 39 = some (PG.F39 r0)) (t37 : T 37 = some PG.F37) (t38 : T 38 = some PG.F38) (l : Nat) (p : Pt) (M : Mem) : callD T (l + 3) 39 [.d (ptD p)] M = some (.ok (.d .non) M) := by
  rw [call_eq t39 rfl (l + 2) _ _ rfl]
  simp [PG.F39, PG.b39, startE, r37 t37 t38 l p M]
theorem r3 (t3 : T 3 = some PG.F3) (l : Nat) (a b : Int) (M : Mem) : callD T (l + 1) 3 [.d (.int a), .d (.int b)] M = some (.ok (.d (.int (Int.gcd a b))) M) := by
  have h : T 3 = some fEuc := t3
  rw [euc_ok h l a b M, euc_gcd _ a b (Nat.le_refl _)]
theorem r42 {r0 : ISs} (t42 : T 42 = some PG.F42) (t39 : T 39 = some (PG.F39 r0)) (t37 : T 37 = some PG.F37) (t38 : T 38 = some PG.F38) (t3 : T 3 = some PG.F3) (l : Nat) (p : Pt) (M : Mem) : callD T (l + 4) 42 [.d (ptD p)] M = some (.ok (.d (.int (Int.gcd p.1 p.2))) M) := by
  rw [call_eq t42 rfl (l + 3) _ _ rfl]
  have e := r39 t39 t37 t38 l p M
  have e2 := r3 t3 (l + 2) p.1 p.2 M
  simp only [ptD] at e ⊢
  simp [PG.F42, PG.b42, startE, e, e2, atI_0, atI_1]
theorem r111 {r0 r1 r2 : ISs} (t111 : T 111 = some (PG.F111 r0 r1 r2)) (t38 : T 38 = some PG.F38) (l : Nat) (P : List Pt) (M : Mem) (h1 : 3 ≤ P.length) (h2 : P.length ≤ 60) : callD T (l + 2) 111 [.d (.lst (P.map ptD))] M = some (.ok (.d .non) M) := by
  rw [call_eq t111 rfl (l + 1) _ _ rfl]
  have e := r38 t38 l P M
  have q1 : (3 : Int) ≤ P.length := by omega
  have q2 : (P.length : Int) ≤ 60 := by omega
  simp [PG.F111, PG.b111, startE, e, tyAny, tyD, isD, q1, q2]
end
end KK

/-! polygons of any number of corners: turns, once around, what is known -/
namespace KK
open PySem PyI FS
open NG (Pt at' nx pr dif crs orient pos Cvx)
theorem rn_cons {α : Type} (n : Nat) (f : Nat → α) : rn (n + 1) f = f 0 :: rn n fun i => f (i + 1) := by
  unfold rn
  rw [List.range_succ_eq_map, List.map_cons, List.map_map]
  rfl
theorem rn_mem {α : Type} {n : Nat} {f : Nat → α} {x : α} (h : x ∈ rn n f) : ∃ i, i < n ∧ f i = x := by
  unfold rn at h
  obtain ⟨i, hi, e⟩ := List.mem_map.mp h
  exact ⟨i, List.mem_range.mp hi, e⟩
theorem best_rn (fi : Int → List Int → Int) (fp : Pt → List Pt → Pt) (n : Nat) (f : Nat → Int) (h : 1 ≤ n) : ∃ m ms, rn n f = m :: ms ∧ bestD fi fp (rn n fun i => .int (f i)) = some (.int (fi m ms)) := by
  obtain ⟨k, rfl⟩ : ∃ k, n = k + 1 := ⟨n - 1, by omega⟩
  refine ⟨f 0, rn k fun i => f (i + 1), rn_cons k f, ?_⟩
  have e : (rn (k + 1) fun i => D.int (f i)) = (f 0 :: rn k fun i => f (i + 1)).map .int := by
    rw [← rn_cons, rn_map]
  rw [e, best_ints]
theorem sum_rnB (n : Nat) (g : Nat → Bool) (h : 1 ≤ n) : opD .sum [.lst (rn n fun i => .bl (g i))] = some (.int ((List.range n).map fun i => NG.i01 (g i)).sum) := by
  have e : (rn n fun i => D.bl (g i)) = (rn n g).map .bl := by rw [rn_map]
  rw [e, opD_sumB _ (by
    obtain ⟨k, rfl⟩ : ∃ k, n = k + 1 := ⟨n - 1, by omega⟩
    rw [rn_cons]
    simp)]
  rw [rn_map]
  rfl
theorem sum_rnI (n : Nat) (g : Nat → Int) : opD .sum [.lst (rn n fun i => .int (g i))] = some (.int ((List.range n).map g).sum) := by
  have e : (rn n fun i => D.int (g i)) = (rn n g).map .int := by rw [rn_map]
  rw [e, opD_sum]
  rfl
section
variable {T : Tab}
@[simp] theorem opD_gtP (p q : Pt) : opD .gt [ptD p, ptD q] = some (.bl (NG.ltP q p)) := rfl
/-- all turns one way, once around -/
theorem r86 {e0 u0 : List (Nat × Nat)} (t86 : T 86 = some (PG.F86 e0 u0)) (l : Nat) (P : List Pt) (s : Int) (M : Mem) (hs : s = 1 ∨ s = -1) (hc : Cvx s P) (h1 : 3 ≤ P.length) (h2 : P.length ≤ 900) :
    callD T (l + 1) 86 [.d (.lst (rn P.length fun i => ptD (stp_ P i))), .d (.lst (rn P.length fun i => .int (trn P i)))] M = some (.ok (.d (.bl true)) M) := by
  rw [call_eq t86 rfl l _ _ rfl]
  obtain ⟨m, ms, em, mn⟩ := best_rn minI minP P.length (trn P) (by omega)
  obtain ⟨m', ms', em', mx⟩ := best_rn maxI maxP P.length (trn P) (by omega)
  have hm : ∀ k ∈ m :: ms, 0 < s * k := by
    intro k hk
    rw [← em] at hk
    obtain ⟨i, hi, rfl⟩ := rn_mem hk
    exact hc.turn hi h1
  have hm' : ∀ k ∈ m' :: ms', 0 < s * k := by
    intro k hk
    rw [← em'] at hk
    obtain ⟨i, hi, rfl⟩ := rn_mem hk
    exact hc.turn hi h1
  have a := minI_all (fun k => 0 < s * k) ms m (hm _ List.mem_cons_self) fun k hk => hm k (List.mem_cons_of_mem _ hk)
  have b := maxI_all (fun k => 0 < s * k) ms' m' (hm' _ List.mem_cons_self) fun k hk => hm' k (List.mem_cons_of_mem _ hk)
  generalize minI m ms = x at *
  generalize maxI m' ms' = y at *
  have q : ¬ (x < 0 ∧ 0 < y) := by
    rcases hs with rfl | rfl
    · omega
    · omega
  have len : opD .len [.lst (rn P.length fun i => D.int (trn P i))] = some (.int P.length) := by rw [opD_lenl, rn_len]
  by_cases q5 : (P.length : Int) < 5
  · by_cases qx : x < 0
    · have qy : ¬ 0 < y := fun z => q ⟨qx, z⟩
      simp [PG.F86, PG.b86, startE, mn, mx, qx, qy, rn_len, q5]
    · simp [PG.F86, PG.b86, startE, mn, mx, qx, rn_len, q5]
  · have once := hc.once h1
    have ad := addRotL P.length (fun i => D.bl (NG.asc P i)) (by omega) h2
    have cF := cutF1 P.length (fun i => D.bl (NG.asc P i))
    have cT := cutT1 P.length (fun i => D.bl (NG.asc P i))
    have l1 : runLc (callD T l) (.nm 4) [4] .nil (.op .gt (.cons (.var 4) (.cons (.op .tup (.cons (.cst (.int 0)) (.cons (.cst (.int 0)) .nil))) .nil))) [some (.d (.lst (rn P.length fun i => ptD (stp_ P i)))), some (.d (.lst (rn P.length fun i => .int (trn P i)))), none, none, none, none, none] (rn P.length fun i => ptD (stp_ P i)) M = some (.ok (rn P.length fun i => .bl (NG.asc P i)) M) :=
      runLc_rn P.length _ _ M (fun i hi => ⟨_, by simp [wipeE]; rfl, by
        have e : opD .gt [ptD (stp_ P i), .tup [.int 0, .int 0]] = some (.bl (NG.asc P i)) := opD_gtP (stp_ P i) (0, 0)
        simp [e]⟩) (by omega)
    have l2 := runLc_rn (C := callD T l) (tg := .tp [.nm 5, .nm 6]) (own := [5, 6]) (e := .eqo true e0 u0 (.var 5) (.var 6)) (env := [some (.d (.lst (rn P.length fun i => ptD (stp_ P i)))), some (.d (.lst (rn P.length fun i => .int (trn P i)))), some (.d (.lst (rn P.length fun i => .bl (NG.asc P i)))), none, none, none, none]) P.length (fun i => .tup [.bl (NG.asc P i), .bl (NG.asc P (nx P.length i))]) (fun i => .bl (NG.asc P i != NG.asc P (nx P.length i))) M (fun i hi => ⟨_, by simp [wipeE]; rfl, by
        have e : (NG.asc P i != NG.asc P (nx P.length i)) = !decide (NG.asc P i = NG.asc P (nx P.length i)) := by cases NG.asc P i <;> cases NG.asc P (nx P.length i) <;> rfl
        simp [eqWho, clsOf, plainV, isTupV, e]⟩) (by omega)
    have sm := sum_rnB P.length (fun i => NG.asc P i != NG.asc P (nx P.length i)) (by omega)
    rw [once] at sm
    by_cases qx : x < 0
    · have qy : ¬ 0 < y := fun z => q ⟨qx, z⟩
      simp [PG.F86, PG.b86, startE, mn, mx, qx, qy, rn_len, q5, l1, cF, cT, ad, zipL_rn, l2, sm]
    · simp [PG.F86, PG.b86, startE, mn, mx, qx, rn_len, q5, l1, cF, cT, ad, zipL_rn, l2, sm]
end
end KK

/-! polygons of any number of corners: what is known of the corners -/
namespace KK
open PySem PyI FS
open NG (Pt at' nx pr dif crs orient pos Cvx)
theorem atI_rn (n : Nat) (f : Nat → D) {j : Nat} (h : j < n) : L2.atI (rn n f) (j : Int) = some (f j) := L2.atI_nat (j := j) (by rw [rn_get, if_pos h])
theorem rot_addT (xs : List D) (j : Nat) (h : xs.length ≤ 900) : opD .add [.tup (xs.drop j), .tup (xs.take j)] = some (.tup (xs.drop j ++ xs.take j)) := opD_addT _ _ (by simp; omega)
theorem rot_addL (xs : List D) (j : Nat) (h : xs.length ≤ 900) : opD .add [.lst (xs.drop j), .lst (xs.take j)] = some (.lst (xs.drop j ++ xs.take j)) := opD_addL _ _ (by simp; omega)
theorem in_rn (n : Nat) (f : Nat → Int) (h : ∀ i, i < n → f i ≠ 0) : inD (.int 0) (.lst (rn n fun i => .int (f i))) = some false := by
  have e : (rn n fun i => D.int (f i)) = (rn n f).map .int := by rw [rn_map]
  rw [e]
  refine in_ints 0 _ fun z => ?_
  obtain ⟨i, hi, e⟩ := rn_mem z
  exact h i hi e
def bck (P : List Pt) (j : Nat) : List Pt := (P.take (j + 1)).reverse ++ (P.drop (j + 1)).reverse
def rotP (P : List Pt) (j : Nat) : List Pt := P.drop j ++ P.take j
def keptOf (P : List Pt) (j : Nat) : List Pt := if 0 < trn P j then rotP P j else bck P j
def sidesOf (P : List Pt) (j : Nat) : D := if 0 < trn P j then .tup [.lst ((rn P.length fun i => ptD (stp_ P i)).drop j ++ (rn P.length fun i => ptD (stp_ P i)).take j), .lst ((rn P.length fun i => D.int (trn P i)).drop j ++ (rn P.length fun i => D.int (trn P i)).take j)] else .non
section
variable {T : Tab}
theorem r114 (t114 : T 114 = some PG.F114) (l : Nat) (P : List Pt) (M : Mem) (v : Val) (hv : IsT v M (P.map ptD)) (j : Nat) (hj : j < P.length) (h2 : P.length ≤ 900) :
    callD T (l + 1) 114 [v, .d (.int (j : Int))] M = some (.ok (.d (.tup ((bck P j).map ptD))) M) := by
  rw [call_eq t114 rfl l _ _ rfl]
  have o1 := hv.op (.rslice true false) (.int (j : Int)) rfl
  have o2 := hv.op (.rslice false true) (.int (j : Int)) rfl
  simp only [opD_rsF, opD_rsT, rcut_from (P.map ptD) j (by simpa using hj), rcut_to (P.map ptD) j (by simpa using hj), Option.map_some] at o1 o2
  have ad : opD .add [.tup ((P.map ptD).take (j + 1)).reverse, .tup ((P.map ptD).drop (j + 1)).reverse] = some (.tup ((bck P j).map ptD)) := by
    rw [opD_addT _ _ (by simp; omega)]
    unfold bck
    rw [List.map_append, List.map_reverse, List.map_reverse, List.map_take, List.map_drop]
  generalize ((P.map ptD).take (j + 1)).reverse = A at *
  generalize ((P.map ptD).drop (j + 1)).reverse = B at *
  simp [PG.F114, PG.b114, startE, o1, o2, ad]
/-- the corners are known -/
theorem r112 {r0 r1 a0 a1 a2 : ISs} (t112 : T 112 = some (PG.F112 r0 r1)) (t111 : T 111 = some (PG.F111 a0 a1 a2)) (t38 : T 38 = some PG.F38) (t84 : T 84 = some PG.F84) (t85 : T 85 = some PG.F85) (t114 : T 114 = some PG.F114)
    (l : Nat) (P : List Pt) (M : Mem) {k : Nat} (hk : k ≤ 200000) (hp : ∀ p ∈ P, Sp k p) (h1 : 3 ≤ P.length) (h2 : P.length ≤ 60) (hz : ∀ i, i < P.length → trn P i ≠ 0) (gr : Bool)
    (h86 : ∀ M, callD T (l + 2) 86 [.d (.lst (rn P.length fun i => ptD (stp_ P i))), .d (.lst (rn P.length fun i => .int (trn P i)))] M = some (.ok (.d (.bl gr)) M))
    (hr1 : gr = false → ∀ env : PyI.Env, env[1]? = some (some (.rf M.length)) → denSs (callD T (l + 2)) r1 env (M ++ [.tup (P.map ptD)]) = some (.nx env (M ++ [.tup (P.map ptD)]))) :
    ∃ j, Least P j ∧ callD T (l + 3) 112 [.d (.lst (P.map ptD))] M = some (.ok (.d (.tup [.tup ((keptOf P j).map ptD), .bl gr, sidesOf P j])) M) := by
  obtain ⟨m, e1, m1, m2⟩ := min_at P (by omega)
  obtain ⟨j, hj, ej, e2⟩ := index_at P m m1
  refine ⟨j, ⟨hj, fun k hk => by rw [ej]; exact m2 _ (at_mem hk)⟩, ?_⟩
  rw [call_eq t112 rfl (l + 2) _ _ rfl]
  have n1 := r111 t111 t38 l P M h1 h2
  have hv : IsT (.rf M.length) (M ++ [.tup (P.map ptD)]) (P.map ptD) := .inr ⟨_, rfl, by simp⟩
  have n2 := r84 t84 (l + 1) P (M ++ [.tup (P.map ptD)]) (.rf M.length) hv (by omega) (by omega)
  have sp : ∀ i, i < P.length → Sp (k + 1) (stp_ P i) := fun i hi => by
    have a := hp _ (at_mem hi)
    have b := hp _ (at_mem (NG.nx_lt hi))
    exact ⟨smSub b.1 a.1, smSub b.2 a.2⟩
  have n3 := r85 t85 (l + 1) P.length (stp_ P) (M ++ [.tup (P.map ptD)]) (k := k + 1) (by omega) sp (by omega) (by omega)
  have tr : (rn P.length fun i => D.int (crs (stp_ P (pr P.length i)) (stp_ P i))) = rn P.length fun i => D.int (trn P i) := rn_congr fun i hi => by rw [trn_eq P hi]
  rw [tr] at n3
  have n4 := h86 (M ++ [.tup (P.map ptD)])
  have n5 := in_rn P.length (trn P) hz
  have n6 := hv.op1 .minl rfl
  rw [opD_minlt, e1, Option.map_some] at n6
  have n7 := atI_rn P.length (fun i => D.int (trn P i)) hj
  have s1 := hv.op (.slice true false) (.int (j : Int)) rfl
  have s2 := hv.op (.slice false true) (.int (j : Int)) rfl
  simp only [opD_slF, opD_slT, cut_from, cut_to, Option.map_some] at s1 s2
  have a1 := rot_addT (P.map ptD) j (by simp; omega)
  have a2 := rot_addL (rn P.length fun i => ptD (stp_ P i)) j (by rw [rn_len]; omega)
  have a3 := rot_addL (rn P.length fun i => D.int (trn P i)) j (by rw [rn_len]; omega)
  have n8 := r114 t114 (l + 1) P (M ++ [.tup (P.map ptD)]) (.rf M.length) hv j hj (by omega)
  have tk : (M ++ [Cell.tup (P.map ptD)]).take M.length = M := by simp
  have km : (rotP P j).map ptD = (P.map ptD).drop j ++ (P.map ptD).take j := by unfold rotP; rw [List.map_append, List.map_drop, List.map_take]
  have ta := tupAt_end (M := M) (P.map ptD)
  have r1' : gr = false → denSs (callD T (l + 2)) r1 [some (.d (.lst (P.map ptD))), some (.rf M.length), some (.d (.lst (rn P.length fun i => ptD (stp_ P i)))), some (.d (.lst (rn P.length fun i => .int (trn P i)))), some (.d (.bl gr)), none, none] (M ++ [.tup (P.map ptD)]) = some (.nx [some (.d (.lst (P.map ptD))), some (.rf M.length), some (.d (.lst (rn P.length fun i => ptD (stp_ P i)))), some (.d (.lst (rn P.length fun i => .int (trn P i)))), some (.d (.bl gr)), none, none] (M ++ [.tup (P.map ptD)])) := fun z => hr1 z _ rfl
  have mk := runMkt_l (M := M) (P.map ptD)
  unfold keptOf sidesOf
  generalize hST : (rn P.length fun i => ptD (stp_ P i)) = ST at *
  generalize hTU : (rn P.length fun i => D.int (trn P i)) = TU at *
  generalize hPL : P.map ptD = PL at *
  generalize hM1 : M ++ [Cell.tup PL] = M1 at *
  by_cases q : 0 < trn P j
  · rw [if_pos q, if_pos q, km]
    cases gr with
    | true => simp [PG.F112, PG.b112, startE, tyAny, tyD, n1, mk, n2, n3, n5, n4, ta, n6, e2, n7, q, s1, s2, cut_from, cut_to, a1, a2, a3, tk]
    | false =>
      have r1' := r1' rfl
      simp [PG.F112, PG.b112, startE, tyAny, tyD, n1, mk, n2, n3, n5, n4, r1', ta, n6, e2, n7, q, s1, s2, cut_from, cut_to, a1, a2, a3, tk]
  · rw [if_neg q, if_neg q]
    cases gr with
    | true => simp [PG.F112, PG.b112, startE, tyAny, tyD, n1, mk, n2, n3, n5, n4, ta, n6, e2, n7, q, n8, tk]
    | false =>
      have r1' := r1' rfl
      simp [PG.F112, PG.b112, startE, tyAny, tyD, n1, mk, n2, n3, n5, n4, r1', ta, n6, e2, n7, q, n8, tk]
end
end KK

/-! polygons of any number of corners: objects, area, border -/
namespace KK
open PySem PyI FS
open NG (Pt at' nx pr dif crs orient pos Cvx cyc ch ls hd fA fG)
theorem eS_setfs (C : Orc) (env : PyI.Env) (M : Mem) (i : Nat) (fl : List Nat) (e : IE) : denS C (.setfs i fl e) env M = bndS (denE C e env M) env fun v M1 => match env[i]? with
    | some (some ov) => match setFs fl ov v M1 with
      | some M3 => some (.nx env M3)
      | none => none
    | _ => none := by first | rfl | simp only [denS]
/-! ### sums around -/
def chn (f : Pt → Pt → Int) : Pt → List Pt → Int
  | _, [] => 0
  | a, q :: Q => f a q + chn f q Q
theorem chn_ch (f : Pt → Pt → Int) : ∀ (Q : List Pt) (x : Pt), chn f x Q = ch f (x :: Q)
  | [], x => rfl
  | y :: Q, x => by
    show f x y + chn f y Q = f x y + ch f (y :: Q)
    rw [chn_ch f Q y]
theorem chn_cyc (f : Pt → Pt → Int) {P : List Pt} (h : P ≠ []) : chn f (ls P) P = cyc f P := by
  cases P with
  | nil => exact absurd rfl h
  | cons x P =>
    show f (ls (x :: P)) x + chn f x P = f (ls (x :: P)) x + ch f (x :: P)
    rw [chn_ch]
theorem at_last {P : List Pt} (h : 1 ≤ P.length) : at' P (P.length - 1) = ls P := by
  unfold at' ls
  rw [List.getD_eq_getElem?_getD, List.getLastD_eq_getLast?, List.getLast?_eq_getElem?]
theorem sum_ch (f : Pt → Pt → Int) : ∀ P : List Pt, ((List.range (P.length - 1)).map fun i => f (at' P i) (at' P (i + 1))).sum = ch f P
  | [] => rfl
  | [x] => rfl
  | x :: y :: r => by
    have ih := sum_ch f (y :: r)
    have e : (x :: y :: r).length - 1 = ((y :: r).length - 1) + 1 := by simp
    rw [e, List.range_succ_eq_map, List.map_cons, List.sum_cons, List.map_map]
    have e2 : ((fun i => f (at' (x :: y :: r) i) (at' (x :: y :: r) (i + 1))) ∘ Nat.succ) = fun i => f (at' (y :: r) i) (at' (y :: r) (i + 1)) := rfl
    rw [e2, ih]
    rfl
theorem sum_cyc (f : Pt → Pt → Int) {P : List Pt} (h : 1 ≤ P.length) : ((List.range P.length).map fun i => f (at' P i) (at' P (nx P.length i))).sum = cyc f P := by
  obtain ⟨n, hn⟩ : ∃ n, P.length = n + 1 := ⟨P.length - 1, by omega⟩
  have e := sum_ch f P
  rw [hn] at e ⊢
  rw [List.range_succ, List.map_append, List.sum_append]
  have e1 : (List.range n).map (fun i => f (at' P i) (at' P (nx (n + 1) i))) = (List.range n).map fun i => f (at' P i) (at' P (i + 1)) := by
    apply List.map_congr_left
    intro i hi
    rw [List.mem_range] at hi
    unfold nx
    rw [if_pos (by omega)]
  rw [e1]
  rw [Nat.add_sub_cancel] at e
  rw [e]
  have l := at_last h
  rw [hn, Nat.add_sub_cancel] at l
  have z : nx (n + 1) n = 0 := by unfold nx; rw [if_neg (by omega)]
  simp only [List.map_cons, List.map_nil, List.sum_cons, List.sum_nil, z, l]
  have h0 : at' P 0 = hd P := by
    unfold at' hd
    cases P with
    | nil => simp at hn
    | cons x P => rfl
  rw [h0]
  unfold cyc
  omega
theorem setFs3 (c : Nat) (f g h : Nat) (x y z : D) (M : Mem) (n1 : f ≠ g) (n2 : f ≠ h) (n3 : g ≠ h) : setFs [f, g, h] (.rf M.length) (.d (.tup [x, y, z])) (M ++ [.ins c []]) = some (M ++ [.ins c [(f, x), (g, y), (h, z)]]) := by
  unfold setFs
  have a1 : (g == f) = false := by simpa using fun e => n1 e.symm
  have a2 : (h == f) = false := by simpa using fun e => n2 e.symm
  have a3 : (h == g) = false := by simpa using fun e => n3 e.symm
  simp [PyI.putFs, PyI.putF, a1, a2, a3, n1, n2, n3, n1.symm, n2.symm, n3.symm]
section
variable {T : Tab}
theorem r125 (t125 : T 125 = some PG.F125) (l : Nat) (P : List Pt) (M : Mem) {k : Nat} (hk : k ≤ 200000) (hp : ∀ p ∈ P, Sp k p) (h1 : 1 ≤ P.length) (h2 : P.length ≤ 900) :
    callD T (l + 1) 125 [.d (.tup (P.map ptD))] M = some (.ok (.d (.int (cyc fA P))) M) := by
  rw [call_eq t125 rfl l _ _ rfl]
  have ad := addRotT _ (fun i => ptD (at' P i)) h1 h2
  have lc := runLc_rn (C := callD T l) (tg := .tp [.tp [.nm 1, .nm 2], .tp [.nm 3, .nm 4]]) (own := [1, 2, 3, 4]) (e := .op .mul (.cons (.op .add (.cons (.var 1) (.cons (.var 3) .nil))) (.cons (.op .sub (.cons (.var 4) (.cons (.var 2) .nil))) .nil))) (env := [some (.d (.tup (rn P.length fun i => ptD (at' P i)))), none, none, none, none])
    P.length (fun i => .tup [ptD (at' P i), ptD (at' P (nx P.length i))]) (fun i => .int (fA (at' P i) (at' P (nx P.length i)))) M (fun i hi => ⟨_, by simp [wipeE, ptD]; rfl, by
      have a := hp _ (at_mem hi)
      have b := hp _ (at_mem (NG.nx_lt hi))
      have m := opD_mulB (i := (at' P i).1 + (at' P (nx P.length i)).1) (j := (at' P (nx P.length i)).2 - (at' P i).2) (a.1.add b.1) (smSub b.2 a.2) (by omega) (by omega)
      simp [fA, m]⟩) (by omega)
  have sm := sum_rnI P.length fun i => fA (at' P i) (at' P (nx P.length i))
  rw [sum_cyc fA h1] at sm
  rw [map_rn]
  simp [PG.F125, PG.b125, startE, cutF1, cutT1, ad, zipL_rn, lc, sm]
/-! ### area and border -/
def wA : ISs := bodyOf (hdS (tlS (tlS PG.b148)))
def wE : IS := hdS (tlS (tlS wA))
theorem eucA (C : Orc) (v0 v1 v2 v3 v4 v5 v6 : Option Val) (M : Mem) (n : Nat) : ∀ x y : Int, y.natAbs ≤ n → ∃ x' : Int, (if x' < 0 then -x' else x') = euc x y ∧
    whl (denB C (condOf wE)) (denSs C (bodyOf wE)) [v0, v1, v2, v3, v4, v5, v6, iv x, iv y] M = some (.nx [v0, v1, v2, v3, v4, v5, v6, iv x', iv 0] M) := by
  induction n with
  | zero =>
    intro x y h
    have : y = 0 := by omega
    subst this
    refine ⟨x, (euc_zero x).symm, ?_⟩
    rw [whl_eq]
    simp [wE, wA, PG.b148, hdS, tlS, bodyOf, condOf]
  | succ n ih =>
    intro x y h
    by_cases z : y = 0
    · subst z
      refine ⟨x, (euc_zero x).symm, ?_⟩
      rw [whl_eq]
      simp [wE, wA, PG.b148, hdS, tlS, bodyOf, condOf]
    · have := pmod_lt x y z
      obtain ⟨x', h2, h1⟩ := ih y (pmod x y) (by omega)
      refine ⟨x', by rw [euc_step x y z]; exact h2, ?_⟩
      rw [whl_eq]
      simp [wE, wA, PG.b148, hdS, tlS, bodyOf, condOf, z, opD_mod x y z, parSet] at h1 ⊢
      exact h1
/-- one edge -/
theorem edgeA (C : Orc) (v0 v7 v8 v5 v6 : Option Val) (M : Mem) (A B : Int) (p q : Pt) {k : Nat} (hk : k ≤ 200000) (hp : Sp k p) (hq : Sp k q) : ∃ x' : Int, denSs C wA [v0, iv A, iv B, iv p.1, iv p.2, iv q.1, iv q.2, v7, v8] M =
    some (.nx [v0, iv (A + fA p q), iv (B + fG p q), iv q.1, iv q.2, iv q.1, iv q.2, iv x', iv 0] M) := by
  obtain ⟨x', h1, h2⟩ := eucA C v0 (iv (A + fA p q)) (iv B) (iv p.1) (iv p.2) (iv q.1) (iv q.2) M _ (q.1 - p.1) (q.2 - p.2) (Nat.le_refl _)
  rw [euc_gcd _ _ _ (Nat.le_refl _)] at h1
  refine ⟨x', ?_⟩
  have m := opD_mulB (i := p.1 + q.1) (j := q.2 - p.2) (hp.1.add hq.1) (smSub hq.2 hp.2) (by omega) (by omega)
  show denSs C (.cons (hdS wA) (.cons (hdS (tlS wA)) (.cons (.whl (condOf wE) (bodyOf wE)) (tlS (tlS (tlS wA)))))) _ _ = _
  rw [stp (env1 := [v0, iv A, iv B, iv p.1, iv p.2, iv q.1, iv q.2, iv (q.1 - p.1), iv (q.2 - p.2)]) (M1 := M) (by simp [wA, PG.b148, hdS, tlS, bodyOf, parSet]),
    stp (env1 := [v0, iv (A + fA p q), iv B, iv p.1, iv p.2, iv q.1, iv q.2, iv (q.1 - p.1), iv (q.2 - p.2)]) (M1 := M) (by simp [wA, PG.b148, hdS, tlS, bodyOf, m, fA]),
    stp (s := .whl (condOf wE) (bodyOf wE)) (by rw [eS_whl]; exact h2)]
  simp [wA, PG.b148, hdS, tlS, bodyOf, h1, parSet, fG]
theorem edgesA (C : Orc) (v0 : Option Val) (M : Mem) {k : Nat} (hk : k ≤ 200000) : ∀ (Q : List Pt) (p : Pt) (A B : Int) (v5 v6 v7 v8 : Option Val), Sp k p → (∀ q ∈ Q, Sp k q) → ∃ a b c d e f : Option Val,
    forL (.tp [.nm 5, .nm 6]) (denSs C wA) (Q.map ptD) [v0, iv A, iv B, iv p.1, iv p.2, v5, v6, v7, v8] M = some (.nx [v0, iv (A + chn fA p Q), iv (B + chn fG p Q), a, b, c, d, e, f] M)
  | [], p, A, B, v5, v6, v7, v8, hp, hQ => ⟨iv p.1, iv p.2, v5, v6, v7, v8, by simp [forL_nil, chn]⟩
  | q :: Q, p, A, B, v5, v6, v7, v8, hp, hQ => by
    have hq := hQ q List.mem_cons_self
    obtain ⟨x', e1⟩ := edgeA C v0 v7 v8 (iv q.1) (iv q.2) M A B p q hk hp hq
    obtain ⟨a, b, c, d, e, f, e2⟩ := edgesA C v0 M hk Q q (A + fA p q) (B + fG p q) (iv q.1) (iv q.2) (iv x') (iv 0) hq fun z hz => hQ z (List.mem_cons_of_mem _ hz)
    refine ⟨a, b, c, d, e, f, ?_⟩
    rw [List.map_cons, forL_cons (env1 := [v0, iv A, iv B, iv p.1, iv p.2, iv q.1, iv q.2, v7, v8]) (by simp [ptD]), e1, goOn_nx, e2]
    simp [chn, Int.add_assoc]
theorem r148 (t148 : T 148 = some PG.F148) (l : Nat) (P : List Pt) (M : Mem) {k : Nat} (hk : k ≤ 200000) (hp : ∀ p ∈ P, Sp k p) (h1 : 1 ≤ P.length) :
    callD T (l + 1) 148 [.d (.tup (P.map ptD))] M = some (.ok (.d (.tup [.int (cyc fA P), .int (cyc fG P)])) M) := by
  rw [call_eq t148 rfl l _ _ rfl]
  have ne : P ≠ [] := by intro z; rw [z] at h1; simp at h1
  have hl : Sp k (ls P) := by rw [← at_last h1]; exact hp _ (at_mem (by omega))
  obtain ⟨a, b, c, d, e, f, e1⟩ := edgesA (callD T l) (some (.d (.tup (P.map ptD)))) M hk P (ls P) 0 0 none none none none hl hp
  rw [chn_cyc _ ne, chn_cyc _ ne] at e1
  have ix : L2.atI (P.map ptD) (-1) = some (ptD (ls P)) := by
    have : L2.atI (P.map ptD) (-1) = (P.map ptD)[P.length - 1]? := by
      have e : L2.ixN (P.map ptD).length (-1) = some (P.length - 1) := by
        rw [List.length_map]
        unfold L2.ixN
        rw [if_neg (by omega), if_pos (by omega)]
        congr 1
        omega
      unfold L2.atI
      rw [e]
      rfl
    rw [this, List.getElem?_map, List.getElem?_eq_getElem (by omega)]
    rw [← at_last h1]
    unfold at'
    rw [List.getD_eq_getElem?_getD, List.getElem?_eq_getElem (show P.length - 1 < P.length by omega)]
    rfl
  show endFn false M.length (denSs (callD T l) (.cons (hdS PG.b148) (.cons (hdS (tlS PG.b148)) (.cons (.for (.tp [.nm 5, .nm 6]) (.seq (.var 0)) wA) (tlS (tlS (tlS PG.b148)))))) [some (.d (.tup (P.map ptD))), none, none, none, none, none, none, none, none] M) = _
  rw [stp (env1 := [some (.d (.tup (P.map ptD))), iv 0, iv 0, none, none, none, none, none, none]) (M1 := M) (by simp [PG.b148, hdS]),
    stp (env1 := [some (.d (.tup (P.map ptD))), iv 0, iv 0, iv (ls P).1, iv (ls P).2, none, none, none, none]) (M1 := M) (by simp [PG.b148, hdS, tlS, ix, ptD]),
    stp (s := .for (.tp [.nm 5, .nm 6]) (.seq (.var 0)) wA) (M1 := M) (by
      rw [eS_for]
      simpa using e1)]
  simp [PG.b148, tlS]
/-! ### objects -/
abbrev poly (c : Nat) (P : List Pt) (b : Bool) (s : D) : D := .ins c [.tup (P.map ptD), .bl b, s]
@[simp] theorem lk23 (x y : Nat) : List.lookup 23 [(23, x), (24, y)] = some x := rfl
@[simp] theorem lk24 (x y : Nat) : List.lookup 24 [(23, x), (24, y)] = some y := rfl
theorem r91 (t91 : T 91 = some PG.F91) (l : Nat) (c : Nat) (v : Val) (x y z : D) (M : Mem) (h : callD T l 112 [v] (M ++ [.ins c []]) = some (.ok (.d (.tup [x, y, z])) (M ++ [.ins c []]))) : callD T (l + 1) 91 [.rf M.length, v] (M ++ [.ins c []]) = some (.ok (.d .non) (M ++ [.ins c [(10, x), (11, y), (12, z)]])) := by
  rw [call_eq t91 rfl l _ _ rfl]
  have e := setFs3 c 10 11 12 x y z M (by decide) (by decide) (by decide)
  simp [PG.F91, PG.b91, startE, eS_setfs, h, e]
theorem r105 {r0 : ISs} (t105 : T 105 = some (PG.F105 r0)) (t91 : T 91 = some PG.F91) (l : Nat) (v : Val) (x z : D) (M : Mem) (h : callD T l 112 [v] (M ++ [.ins 24 []]) = some (.ok (.d (.tup [x, .bl true, z])) (M ++ [.ins 24 []]))) : callD T (l + 2) 105 [.rf M.length, v] (M ++ [.ins 24 []]) = some (.ok (.d .non) (M ++ [.ins 24 [(10, x), (11, .bl true), (12, z)]])) := by
  rw [call_eq t105 rfl (l + 1) _ _ rfl]
  have e := r91 t91 l 24 v x (.bl true) z M h
  have g : getF 11 [(23, 1), (24, 1)] (.rf M.length) (M ++ [.ins 24 [(10, x), (11, .bl true), (12, z)]]) = some (.bl true) := getF_new M 11 [(23, 1), (24, 1)] 24 [(10, x), (11, .bl true), (12, z)] rfl
  simp [PG.F105, PG.b105, startE, e, g]
variable {c : Nat} (hc : c = 23 ∨ c = 24)
include hc
theorem r92 (t92 : T 92 = some PG.F92) (l : Nat) (P : List Pt) (b : Bool) (s : D) (M : Mem) : callD T (l + 1) 92 [.d (poly c P b s)] M = some (.ok (.d (.tup (P.map ptD))) M) := by
  rw [call_eq t92 rfl l _ M rfl]
  rcases hc with rfl | rfl <;> simp [PG.F92, PG.b92, startE]
theorem r93 (t93 : T 93 = some PG.F93) (t125 : T 125 = some PG.F125) (l : Nat) (P : List Pt) (b : Bool) (s : D) (M : Mem) {k : Nat} (hk : k ≤ 200000) (hp : ∀ p ∈ P, Sp k p) (h1 : 1 ≤ P.length) (h2 : P.length ≤ 900) : callD T (l + 2) 93 [.d (poly c P b s)] M = some (.ok (.d (.int (cyc fA P))) M) := by
  rw [call_eq t93 rfl (l + 1) _ M rfl]
  have e := r125 t125 l P M hk hp h1 h2
  rcases hc with rfl | rfl <;> simp [PG.F93, PG.b93, startE, e]
theorem r95 (t95 : T 95 = some PG.F95) (t148 : T 148 = some PG.F148) (l : Nat) (P : List Pt) (b : Bool) (s : D) (M : Mem) {k : Nat} (hk : k ≤ 200000) (hp : ∀ p ∈ P, Sp k p) (h1 : 1 ≤ P.length) : callD T (l + 2) 95 [.d (poly c P b s)] M = some (.ok (.d (.int ((cyc fA P - cyc fG P + 2) / 2))) M) := by
  rw [call_eq t95 rfl (l + 1) _ M rfl]
  have e := r148 t148 l P M hk hp h1
  have d2 : ∀ i : Int, opD .fdiv [.int i, .int 2] = some (.int (i / 2)) := fun i => fdivO i 2 (by decide)
  rcases hc with rfl | rfl <;> simp [PG.F95, PG.b95, startE, e, d2]
theorem r96 (t96 : T 96 = some PG.F96) (t148 : T 148 = some PG.F148) (l : Nat) (P : List Pt) (b : Bool) (s : D) (M : Mem) {k : Nat} (hk : k ≤ 200000) (hp : ∀ p ∈ P, Sp k p) (h1 : 1 ≤ P.length) : callD T (l + 2) 96 [.d (poly c P b s)] M = some (.ok (.d (.int ((cyc fA P + cyc fG P + 2) / 2))) M) := by
  rw [call_eq t96 rfl (l + 1) _ M rfl]
  have e := r148 t148 l P M hk hp h1
  have d2 : ∀ i : Int, opD .fdiv [.int i, .int 2] = some (.int (i / 2)) := fun i => fdivO i 2 (by decide)
  rcases hc with rfl | rfl <;> simp [PG.F96, PG.b96, startE, e, d2]
theorem r151 {r0 : ISs} (t151 : T 151 = some (PG.F151 r0)) (l : Nat) (P : List Pt) (b : Bool) (s : D) (M : Mem) : callD T (l + 1) 151 [.d (poly c P b s)] M = some (.ok (.d .non) M) := by
  rw [call_eq t151 rfl l _ M rfl]
  rcases hc with rfl | rfl <;> simp [PG.F151, PG.b151, startE, tyAny, tyD]
omit hc
theorem r70 {r0 : ISs} (t70 : T 70 = some (PG.F70 r0)) (l : Nat) (i : Int) (M : Mem) : callD T (l + 1) 70 [.d (.int i)] M = some (.ok (.d .non) M) := by
  rw [call_eq t70 rfl l _ M rfl]
  simp [PG.F70, PG.b70, startE, tyAny, tyD, isD]
theorem r149 {r0 q0 : ISs} (t149 : T 149 = some (PG.F149 r0)) (t70 : T 70 = some (PG.F70 q0)) (l : Nat) (i m : Int) (M : Mem) (h : m ≤ i) : callD T (l + 2) 149 [.d (.int i), .d (.int m)] M = some (.ok (.d .non) M) := by
  rw [call_eq t149 rfl (l + 1) _ M rfl]
  have q : ¬ i < m := by omega
  simp [PG.F149, PG.b149, startE, r70 t70 l i M, q]
include hc
theorem r152 {r0 r1 r2 : ISs} (t152 : T 152 = some PG.F152) (t151 : T 151 = some (PG.F151 r0)) (t149 : T 149 = some (PG.F149 r1)) (t70 : T 70 = some (PG.F70 r2)) (t148 : T 148 = some PG.F148) (t92 : T 92 = some PG.F92)
    (l : Nat) (P : List Pt) (b : Bool) (s : D) (m : Int) (M : Mem) {k : Nat} (hk : k ≤ 1000) (hp : ∀ p ∈ P, Sp k p) (h1 : 1 ≤ P.length) (hm : 1 ≤ m) (sm : Sm 1000 m) (sA : Sm 3000 (cyc fA P)) (sG : Sm 3000 (cyc fG P)) :
    callD T (l + 3) 152 [.d (poly c P b s), .d (.int m)] M = some (.ok (.d (.tup [.int ((cyc fA P * m * m + cyc fG P * m) / 2 + 1), .int ((cyc fA P * m * m - cyc fG P * m) / 2 + 1)])) M) := by
  rw [call_eq t152 rfl (l + 2) _ M rfl]
  have e1 := r151 hc t151 (l + 1) P b s M
  have e2 := r149 t149 t70 l m 1 M hm
  have e3 := r92 hc t92 (l + 1) P b s M
  have e4 := r148 t148 (l + 1) P M (by omega : k ≤ 200000) hp h1
  have d2 : ∀ i : Int, opD .fdiv [.int i, .int 2] = some (.int (i / 2)) := fun i => fdivO i 2 (by decide)
  have m1 := opD_mulB sA sm (by decide) (by decide)
  have m2 := opD_mulB (sA.mul sm) sm (by decide) (by decide)
  have m3 := opD_mulB sG sm (by decide) (by decide)
  rcases hc with rfl | rfl <;> simp [PG.F152, PG.b152, startE, e1, e2, e3, e4, d2, m1, m2, m3, parSet]
end
end KK

/-! convex rows: the corners kept, their sums -/
namespace KK
open PySem PyI FS
open NG (Pt at' nx pr dif crs orient pos Cvx cyc ch ls hd fA fG)
theorem ch_neg (f : Pt → Pt → Int) : ∀ P : List Pt, ch (fun p q => -f p q) P = -ch f P
  | [] => rfl
  | [x] => rfl
  | x :: y :: r => by
    show -f x y + ch (fun p q => -f p q) (y :: r) = -(f x y + ch f (y :: r))
    rw [ch_neg f (y :: r)]
    omega
theorem cyc_neg (f : Pt → Pt → Int) (P : List Pt) : cyc (fun p q => -f p q) P = -cyc f P := by
  unfold cyc
  rw [ch_neg]
  show -f (ls P) (hd P) + -ch f P = -(f (ls P) (hd P) + ch f P)
  omega
theorem bck_rev (P : List Pt) (j : Nat) : bck P j = (P.drop (j + 1) ++ P.take (j + 1)).reverse := by
  unfold bck
  rw [List.reverse_append]
theorem cyc_bck (f : Pt → Pt → Int) (P : List Pt) (j : Nat) : cyc f (bck P j) = cyc (fun p q => f q p) P := by
  rw [bck_rev, NG.cyc_rev, NG.cyc_rot']
theorem bck_A (P : List Pt) (j : Nat) : cyc fA (bck P j) = -cyc fA P := by
  rw [cyc_bck, ← cyc_neg]
  congr 1
  funext p q
  exact NG.fA_anti p q
theorem bck_G (P : List Pt) (j : Nat) : cyc fG (bck P j) = cyc fG P := by
  rw [cyc_bck]
  congr 1
  funext p q
  exact NG.fG_sym p q
theorem rot_any (f : Pt → Pt → Int) (P : List Pt) (j : Nat) : cyc f (rotP P j) = cyc f P := NG.cyc_rot' f P j
theorem kept_len (P : List Pt) {j : Nat} (hj : j < P.length) : (keptOf P j).length = P.length := by
  unfold keptOf rotP bck
  split <;> simp <;> omega
theorem kept_mem {P : List Pt} {j : Nat} {p : Pt} (h : p ∈ keptOf P j) : p ∈ P := by
  unfold keptOf rotP bck at h
  split at h
  · rcases List.mem_append.mp h with h | h
    · exact List.mem_of_mem_drop h
    · exact List.mem_of_mem_take h
  · rcases List.mem_append.mp h with h | h
    · exact List.mem_of_mem_take (List.mem_reverse.mp h)
    · exact List.mem_of_mem_drop (List.mem_reverse.mp h)
theorem kept_G (P : List Pt) (j : Nat) : cyc fG (keptOf P j) = cyc fG P := by
  unfold keptOf
  split
  · exact rot_any _ _ _
  · exact bck_G _ _
theorem kept_A {s : Int} {P : List Pt} (hs : s = 1 ∨ s = -1) (h : Cvx s P) (h3 : 3 ≤ P.length) {j : Nat} (hj : j < P.length) : cyc fA (keptOf P j) = s * cyc fA P := by
  have t : 0 < s * trn P j := h.turn hj h3
  unfold keptOf
  rcases hs with rfl | rfl
  · rw [if_pos (by omega), rot_any]
    omega
  · rw [if_neg (by omega), bck_A]
    omega
theorem ch_sm {f : Pt → Pt → Int} {k : Nat} : ∀ (P : List Pt), (∀ p ∈ P, ∀ q ∈ P, Sm k (f p q)) → (ch f P).natAbs ≤ P.length * 2 ^ k
  | [], _ => Nat.zero_le _
  | [x], _ => Nat.zero_le _
  | x :: y :: r, h => by
    have a := ch_sm (y :: r) fun p hp q hq => h p (List.mem_cons_of_mem _ hp) q (List.mem_cons_of_mem _ hq)
    have b : (f x y).natAbs < 2 ^ k := h x (by simp) y (by simp)
    show (f x y + ch f (y :: r)).natAbs ≤ _
    have e : (x :: y :: r).length * 2 ^ k = (y :: r).length * 2 ^ k + 2 ^ k := by
      rw [List.length_cons, Nat.add_mul, Nat.one_mul]
    omega
theorem cyc_sm {f : Pt → Pt → Int} {k : Nat} {P : List Pt} (h1 : 1 ≤ P.length) (h2 : P.length ≤ 900) (h : ∀ p ∈ P, ∀ q ∈ P, Sm k (f p q)) : Sm (k + 10) (cyc f P) := by
  have a := ch_sm P h
  have b : (f (ls P) (hd P)).natAbs < 2 ^ k := h _ (by rw [← at_last h1]; exact at_mem (by omega)) _ (by
    cases P with
    | nil => simp at h1
    | cons x P => exact List.mem_cons_self)
  have c : P.length * 2 ^ k ≤ 900 * 2 ^ k := Nat.mul_le_mul_right _ h2
  have e : 2 ^ (k + 10) = 2 ^ k * 1024 := by rw [Nat.pow_add]
  unfold Sm cyc
  rw [e]
  omega
theorem sm_fA {k : Nat} {p q : Pt} (hp : Sp k p) (hq : Sp k q) : Sm (2 * k + 2) (fA p q) := ((hp.1.add hq.1).mul (smSub hq.2 hp.2)).le (by omega)
theorem sm_fG {k : Nat} {p q : Pt} (hp : Sp k p) (hq : Sp k q) : Sm (2 * k + 2) (fG p q) := by
  unfold fG
  by_cases z : q.1 - p.1 = 0 ∧ q.2 - p.2 = 0
  · rw [z.1, z.2]
    exact Sm.le (k := 0) (by unfold Sm; decide) (by omega)
  · have e : ((Int.gcd (q.1 - p.1) (q.2 - p.2) : Nat) : Int).natAbs = Int.gcd (q.1 - p.1) (q.2 - p.2) := by omega
    have a : Sm (k + 1) (q.1 - p.1) := smSub hq.1 hp.1
    have b : Sm (k + 1) (q.2 - p.2) := smSub hq.2 hp.2
    refine Sm.le (k := k + 1) ?_ (by omega)
    unfold Sm at *
    rw [e]
    by_cases h : q.1 - p.1 = 0
    · have := Nat.le_of_dvd (by omega) (Int.gcd_dvd_natAbs_right (q.1 - p.1) (q.2 - p.2))
      omega
    · have := Nat.le_of_dvd (by omega) (Int.gcd_dvd_natAbs_left (q.1 - p.1) (q.2 - p.2))
      omega
section
variable {T : Tab}
/-- a convex polygon is made -/
theorem mkC {r0 r1 a0 a1 a2 c0 : ISs} {e0 u0 : List (Nat × Nat)} (t105 : T 105 = some (PG.F105 c0)) (t91 : T 91 = some PG.F91) (t112 : T 112 = some (PG.F112 r0 r1)) (t111 : T 111 = some (PG.F111 a0 a1 a2)) (t38 : T 38 = some PG.F38) (t84 : T 84 = some PG.F84) (t85 : T 85 = some PG.F85) (t86 : T 86 = some (PG.F86 e0 u0)) (t114 : T 114 = some PG.F114)
    (l : Nat) (P : List Pt) (M : Mem) {k : Nat} (hk : k ≤ 200000) (hp : ∀ p ∈ P, Sp k p) (h1 : 3 ≤ P.length) (h2 : P.length ≤ 60) {s : Int} (hs : s = 1 ∨ s = -1) (hc : Cvx s P) :
    ∃ j, Least P j ∧ endNew 24 [10, 11, 12] M.length (callD T (l + 5) 105 [.rf M.length, .d (.lst (P.map ptD))] (M ++ [.ins 24 []])) = some (.ok (.d (poly 24 (keptOf P j) true (sidesOf P j))) M) := by
  obtain ⟨j, hj, e⟩ := r112 t112 t111 t38 t84 t85 t114 l P (M ++ [.ins 24 []]) hk hp h1 h2 (fun i hi z => by
    have := hc.turn hi h1
    unfold trn at z
    rw [z] at this
    omega) true (fun M1 => r86 t86 (l + 1) P s M1 hs hc h1 (by omega)) (fun z => by cases z)
  refine ⟨j, hj, ?_⟩
  have e2 := r105 t105 t91 (l + 3) (.d (.lst (P.map ptD))) _ _ M e
  rw [e2]
  exact endNew_ok M 24 [10, 11, 12] [(10, .tup ((keptOf P j).map ptD)), (11, .bl true), (12, sidesOf P j)] rfl
end
end KK

/-! curves: rows of points with growing slopes are convex; images; parts -/
namespace NG
theorem sub_snoc {α : Type} {l P : List α} {x : α} (h : l.Sublist (P ++ [x])) : l.Sublist P ∨ ∃ l', l = l' ++ [x] ∧ l'.Sublist P := by
  obtain ⟨l1, l2, e, h1, h2⟩ := List.sublist_append_iff.mp h
  cases l2 with
  | nil =>
    rw [List.append_nil] at e
    exact .inl (e ▸ h1)
  | cons y r =>
    have hl := h2.length_le
    have : r = [] := by
      cases r with
      | nil => rfl
      | cons z r => simp at hl
    subst this
    have : y = x := by
      have := h2.subset (show y ∈ [y] by simp)
      simpa using this
    subst this
    exact .inr ⟨l1, e, h1⟩
/-- every two: to the right, and not steeper than s + 1 -/
structure Grw (s : Int) (P : List Pt) : Prop where
  two : ∀ a b, [a, b].Sublist P → a.1 < b.1 ∧ b.2 - a.2 < (s + 1) * (b.1 - a.1)
  cvx : Cvx 1 P
theorem Grw.one (s : Int) (p : Pt) : Grw s [p] where
  two := fun a b h => by have := h.length_le; simp at this
  cvx := fun a b c h => by have := h.length_le; simp at this
theorem Grw.add {s s' d r : Int} {Q : List Pt} {l : Pt} (h : Grw s (Q ++ [l])) (hs : s + 1 ≤ s') (hd : 0 < d) (h0 : 0 ≤ r) (hr : r < d) : Grw s' ((Q ++ [l]) ++ [(l.1 + d, l.2 + d * s' + r)]) := by
  have up : ∀ a b, [a, b].Sublist (Q ++ [l]) → b.2 - a.2 < s' * (b.1 - a.1) := by
    intro a b z
    obtain ⟨z1, z2⟩ := h.two a b z
    have : (s + 1) * (b.1 - a.1) ≤ s' * (b.1 - a.1) := Int.mul_le_mul_of_nonneg_right hs (by omega)
    omega
  have from_ : ∀ a, a ∈ Q ++ [l] → a = l ∨ [a, l].Sublist (Q ++ [l]) := by
    intro a z
    rcases List.mem_append.mp z with z | z
    · exact .inr ((List.singleton_sublist.mpr z).append (List.Sublist.refl [l]))
    · exact .inl (by simpa using z)
  have nn : d * (s' + 1) = d * s' + d := by rw [Int.mul_add, Int.mul_one]
  constructor
  · intro a b z
    rcases sub_snoc z with z | ⟨l', e, zz⟩
    · obtain ⟨z1, z2⟩ := h.two a b z
      have := up a b z
      refine ⟨z1, ?_⟩
      rw [Int.add_mul, Int.one_mul]
      omega
    · obtain ⟨rfl, rfl⟩ : l' = [a] ∧ b = (l.1 + d, l.2 + d * s' + r) := by
        cases l' with
        | nil => simp at e
        | cons x t =>
          cases t with
          | nil => simp at e; exact ⟨by rw [e.1], e.2⟩
          | cons y t => simp at e
      simp only
      rcases from_ a (List.singleton_sublist.mp zz) with rfl | w
      · refine ⟨by omega, ?_⟩
        have e1 : a.1 + d - a.1 = d := by omega
        rw [e1, Int.add_mul, Int.one_mul, Int.mul_comm s' d]
        omega
      · obtain ⟨w1, w2⟩ := h.two a l w
        have w3 := up a l w
        refine ⟨by omega, ?_⟩
        have e1 : l.1 + d - a.1 = (l.1 - a.1) + d := by omega
        rw [e1, Int.add_mul, Int.one_mul, Int.mul_add, Int.mul_comm s' d]
        omega
  · intro a b c z
    rcases sub_snoc z with z | ⟨l', e, zz⟩
    · exact h.cvx a b c z
    · obtain ⟨rfl, rfl⟩ : l' = [a, b] ∧ c = (l.1 + d, l.2 + d * s' + r) := by
        cases l' with
        | nil => simp at e
        | cons x t =>
          cases t with
          | nil => simp at e
          | cons y t =>
            cases t with
            | nil => simp at e; exact ⟨by rw [e.1, e.2.1], e.2.2⟩
            | cons w t => simp at e
      obtain ⟨w1, w2⟩ := h.two a b zz
      have w3 := up a b zz
      have o : 0 ≤ orient a b l := by
        rcases from_ b (zz.subset (by simp)) with rfl | w
        · rw [(or_same b a).2.2 |> fun _ => (show orient a b b = 0 by unfold orient; grind)]
          exact Int.le_refl _
        · -- a before b, b before l
          have z3 : [a, b, l].Sublist (Q ++ [l]) := by
            rcases sub_snoc zz with q | ⟨l', e, q⟩
            · exact q.append (List.Sublist.refl [l])
            · obtain ⟨_, rfl⟩ : l' = [a] ∧ b = l := by
                cases l' with
                | nil => simp at e
                | cons x t =>
                  cases t with
                  | nil => simp at e; exact ⟨by rw [e.1], e.2⟩
                  | cons y t => simp at e
              have := (h.two b b w).1
              omega
          have := h.cvx a b l z3
          omega
      have key : orient a b (l.1 + d, l.2 + d * s' + r) = orient a b l + ((b.1 - a.1) * (d * s' + r) - (b.2 - a.2) * d) := by unfold orient; grind
      rw [key]
      have k1 : (b.2 - a.2) * d < s' * (b.1 - a.1) * d := Int.mul_lt_mul_of_pos_right w3 hd
      have k2 : (b.1 - a.1) * (d * s' + r) = s' * (b.1 - a.1) * d + (b.1 - a.1) * r := by grind
      have k3 := Int.mul_nonneg (show 0 ≤ b.1 - a.1 by omega) h0
      omega
theorem Cvx.map {s e : Int} {P : List Pt} (f : Pt → Pt) (hf : ∀ a b c, orient (f a) (f b) (f c) = e * orient a b c) (he : e = 1 ∨ e = -1) (h : Cvx s P) : Cvx (e * s) (P.map f) := by
  intro a b c z
  obtain ⟨l, hl, e1⟩ := List.sublist_map_iff.mp z
  match l, hl, e1 with
  | [x, y, w], hl, e1 =>
    simp only [List.map_cons, List.map_nil, List.cons.injEq, and_true] at e1
    obtain ⟨rfl, rfl, rfl⟩ := e1
    rw [hf]
    have := h x y w hl
    rcases he with rfl | rfl
    · rw [Int.one_mul, Int.one_mul]; exact this
    · rw [show (-1 : Int) * s * (-1 * orient x y w) = s * orient x y w by grind]; exact this
  | [], hl, e1 => simp at e1
  | [x], hl, e1 => simp at e1
  | [x, y], hl, e1 => simp at e1
  | x :: y :: w :: v :: l, hl, e1 => simp at e1
end NG

/-! the laws' own numbers of maps, and their images -/
namespace KK
open PySem PyI FS
open NG (Pt)
def bProduct : ISs := (.cons (.set (.tp [(.nm 2), (.nm 3), (.nm 4), (.nm 5)]) (.var 0)) (.cons (.set (.tp [(.nm 6), (.nm 7), (.nm 8), (.nm 9)]) (.var 1)) (.cons (.ret (.op .tup (.cons (.op .add (.cons (.op .mul (.cons (.var 6) (.cons (.var 2) .nil))) (.cons (.op .mul (.cons (.var 7) (.cons (.var 4) .nil))) .nil))) (.cons (.op .add (.cons (.op .mul (.cons (.var 6) (.cons (.var 3) .nil))) (.cons (.op .mul (.cons (.var 7) (.cons (.var 5) .nil))) .nil))) (.cons (.op .add (.cons (.op .mul (.cons (.var 8) (.cons (.var 2) .nil))) (.cons (.op .mul (.cons (.var 9) (.cons (.var 4) .nil))) .nil))) (.cons (.op .add (.cons (.op .mul (.cons (.var 8) (.cons (.var 3) .nil))) (.cons (.op .mul (.cons (.var 9) (.cons (.var 5) .nil))) .nil))) .nil)))))) .nil)))
def bNumbers (fd fp : Nat) : ISs := (.cons (.set (.nm 1) (.op .tup (.cons (.cst (.int (1))) (.cons (.cst (.int (0))) (.cons (.cst (.int (0))) (.cons (.cst (.int (1))) .nil)))))) (.cons (.for (.nm 2) (.range (.cons (.call fd (.cons (.var 0) (.cons (.cst (.int (5))) .nil))) .nil)) (.cons (.set (.nm 3) (.op .ix (.cons (.op .lst (.cons (.op .sub (.cons (.call fd (.cons (.var 0) (.cons (.cst (.int (7))) .nil))) (.cons (.cst (.int (3))) .nil))) (.cons (.op .sub (.cons (.call fd (.cons (.var 0) (.cons (.cst (.int (61))) .nil))) (.cons (.cst (.int (30))) .nil))) .nil))) (.cons (.call fd (.cons (.var 0) (.cons (.cst (.int (2))) .nil))) .nil)))) (.cons (.set (.nm 4) (.op .lst (.cons (.op .tup (.cons (.cst (.int (1))) (.cons (.var 3) (.cons (.cst (.int (0))) (.cons (.cst (.int (1))) .nil))))) (.cons (.op .tup (.cons (.cst (.int (1))) (.cons (.cst (.int (0))) (.cons (.var 3) (.cons (.cst (.int (1))) .nil))))) (.cons (.op .tup (.cons (.cst (.int (0))) (.cons (.op .neg (.cons (.cst (.int (1))) .nil)) (.cons (.cst (.int (1))) (.cons (.cst (.int (0))) .nil))))) (.cons (.op .tup (.cons (.cst (.int (1))) (.cons (.cst (.int (0))) (.cons (.cst (.int (0))) (.cons (.op .neg (.cons (.cst (.int (1))) .nil)) .nil))))) (.cons (.op .tup (.cons (.cst (.int (0))) (.cons (.cst (.int (1))) (.cons (.cst (.int (1))) (.cons (.cst (.int (0))) .nil))))) .nil))))))) (.cons (.set (.nm 1) (.call fp (.cons (.var 1) (.cons (.op .ix (.cons (.var 4) (.cons (.call fd (.cons (.var 0) (.cons (.cst (.int (5))) .nil))) .nil))) .nil)))) .nil)))) (.cons (.set (.nm 5) (.op .lst (.cons (.op .sub (.cons (.call fd (.cons (.var 0) (.cons (.cst (.int (21))) .nil))) (.cons (.cst (.int (10))) .nil))) (.cons (.op .mul (.cons (.call fd (.cons (.var 0) (.cons (.op .pow (.cons (.cst (.int (10))) (.cons (.cst (.int (9))) .nil))) .nil))) (.cons (.op .pow (.cons (.cst (.int (10))) (.cons (.cst (.int (9))) .nil))) .nil))) (.cons (.op .sub (.cons (.cst (.int (0))) (.cons (.call fd (.cons (.var 0) (.cons (.op .pow (.cons (.cst (.int (10))) (.cons (.cst (.int (9))) .nil))) .nil))) .nil))) .nil))))) (.cons (.ret (.op .add (.cons (.var 1) (.cons (.op .tup (.cons (.op .ix (.cons (.var 5) (.cons (.call fd (.cons (.var 0) (.cons (.cst (.int (3))) .nil))) .nil))) (.cons (.op .ix (.cons (.var 5) (.cons (.call fd (.cons (.var 0) (.cons (.cst (.int (3))) .nil))) .nil))) .nil))) .nil)))) .nil))))
def bImage : ISs := (.cons (.set (.tp [(.nm 2), (.nm 3), (.nm 4), (.nm 5), (.nm 6), (.nm 7)]) (.var 0)) (.cons (.ret (.op .tup (.cons (.op .add (.cons (.op .add (.cons (.op .mul (.cons (.var 2) (.cons (.op .ix (.cons (.var 1) (.cons (.cst (.int (0))) .nil))) .nil))) (.cons (.op .mul (.cons (.var 3) (.cons (.op .ix (.cons (.var 1) (.cons (.cst (.int (1))) .nil))) .nil))) .nil))) (.cons (.var 6) .nil))) (.cons (.op .add (.cons (.op .add (.cons (.op .mul (.cons (.var 4) (.cons (.op .ix (.cons (.var 1) (.cons (.cst (.int (0))) .nil))) .nil))) (.cons (.op .mul (.cons (.var 5) (.cons (.op .ix (.cons (.var 1) (.cons (.cst (.int (1))) .nil))) .nil))) .nil))) (.cons (.var 7) .nil))) .nil)))) .nil))
def fProduct : Fn := { np := 2, star := false, ns := 10, body := bProduct, keep := false }
def fNumbers (fd fp : Nat) : Fn := { np := 1, star := false, ns := 6, body := bNumbers fd fp, keep := false }
def fImage : Fn := { np := 2, star := false, ns := 8, body := bImage, keep := false }
section
variable {T : Tab} {fd fp fn fi : Nat} (hD : T fd = some fDraw) (hP : T fp = some fProduct) (hN : T fn = some (fNumbers fd fp))
include hP
theorem product_ok (l : Nat) (x y : Six) (M : Mem) {k : Nat} (hk : k ≤ 300000) (hx : Sx k x) (hy : Sx k y) : callD T (l + 1) fp [.d (lin x), .d (lin y)] M = some (.ok (.d (lin (comp x y))) M) := by
  rw [call_eq hP rfl l _ M rfl]
  obtain ⟨a, b, c, d, e, f⟩ := hx
  obtain ⟨p, q, r, s, t, u⟩ := hy
  have m : ∀ {i j : Int}, Sm k i → Sm k j → opD .mul [.int i, .int j] = some (.int (i * j)) := fun h1 h2 => opD_mulB h1 h2 (by omega) (by omega)
  simp [fProduct, bProduct, startE, lin, comp, m p a, m q c, m p b, m q d, m r a, m s c, m r b, m s d]
include hD
theorem numLoop (l : Nat) {M0 : Mem} {n : Nat} (hn : n < M0.length) : ∀ (xs : List D) (s : Six) (k : Nat) (v2 v3 v4 v5 : Option Val) (M : Mem), k + 8 * xs.length ≤ 1000 → 6 ≤ k → Dr M0 n M → Sx k s → Unit6 s →
    ∃ s' v2' v3' v4' M1, forL (.nm 2) (denSs (callD T (l + 1)) (bodyOf (hdS (tlS (bNumbers fd fp))))) xs [some (.rf n), some (.d (lin s)), v2, v3, v4, v5] M = some (.nx [some (.rf n), some (.d (lin s')), v2', v3', v4', v5] M1) ∧ Dr M0 n M1 ∧ Sx (k + 8 * xs.length) s' ∧ Unit6 s'
  | [], s, k, v2, v3, v4, v5, M, _, _, h, hs, hd => ⟨s, v2, v3, v4, M, rfl, h, hs, hd⟩
  | x :: xs, s, k, v2, v3, v4, v5, M, hk, h6, h, hs, hd => by
    obtain ⟨r1, m1, p1, q1, k1, e1⟩ := draw_ok hD l hn h 7 (by decide) (by decide)
    obtain ⟨r2, m2, p2, q2, k2, e2⟩ := draw_ok hD l hn k1 61 (by decide) (by decide)
    obtain ⟨r3, m3, p3, q3, k3, e3⟩ := draw_ok hD l hn k2 2 (by decide) (by decide)
    obtain ⟨r4, m4, p4, q4, k4, e4⟩ := draw_ok hD l hn k3 5 (by decide) (by decide)
    obtain ⟨a, ha, ea⟩ := atI_some [D.int (r1 - 3), .int (r2 - 30)] r3 p3 (by simpa using q3)
    obtain ⟨v, sv, rfl⟩ : ∃ v : Int, Sm 5 v ∧ a = .int v := by
      simp only [List.mem_cons, List.not_mem_nil, or_false] at ha
      rcases ha with rfl | rfl
      · exact ⟨_, by unfold Sm; omega, rfl⟩
      · exact ⟨_, by unfold Sm; omega, rfl⟩
    obtain ⟨b, hb, eb⟩ := atI_some [D.tup [.int 1, .int v, .int 0, .int 1], .tup [.int 1, .int 0, .int v, .int 1], .tup [.int 0, .int (-1), .int 1, .int 0], .tup [.int 1, .int 0, .int 0, .int (-1)], .tup [.int 0, .int 1, .int 1, .int 0]] r4 p4 (by simpa using q4)
    obtain ⟨g, rfl, sg, ug⟩ := fac_mem sv hb
    have e5 := product_ok hP l s g m4 (k := k) (by omega) hs (sx_le sg h6)
    have sc := sx_comp hs sg
    have uc : Unit6 (comp s g) := by
      unfold Unit6
      rw [det_comp]
      exact unit_mul hd ug
    obtain ⟨s', v2', v3', v4', M1, f1, f2, f3, f4⟩ := numLoop l hn xs (comp s g) (k + 8) (some (.d x)) (some (.d (.int v))) (some (.d (.lst [D.tup [.int 1, .int v, .int 0, .int 1], .tup [.int 1, .int 0, .int v, .int 1], .tup [.int 0, .int (-1), .int 1, .int 0], .tup [.int 1, .int 0, .int 0, .int (-1)], .tup [.int 0, .int 1, .int 1, .int 0]]))) v5 m4 (by simp only [List.length_cons] at hk; omega) (by omega) k4 (sx_le sc (by omega)) uc
    refine ⟨s', v2', v3', v4', M1, ?_, f2, sx_le f3 (by simp only [List.length_cons]; omega), f4⟩
    rw [forL_cons (env1 := [some (.rf n), some (.d (lin s)), some (.d x), v3, v4, v5]) (by simp only [tgN]; rfl)]
    have b : denSs (callD T (l + 1)) (bodyOf (hdS (tlS (bNumbers fd fp)))) [some (.rf n), some (.d (lin s)), some (.d x), v3, v4, v5] M = some (.nx [some (.rf n), some (.d (lin (comp s g))), some (.d x), some (.d (.int v)), some (.d (.lst [D.tup [.int 1, .int v, .int 0, .int 1], .tup [.int 1, .int 0, .int v, .int 1], .tup [.int 0, .int (-1), .int 1, .int 0], .tup [.int 1, .int 0, .int 0, .int (-1)], .tup [.int 0, .int 1, .int 1, .int 0]])), v5] m4) := by
      simp [bNumbers, hdS, tlS, bodyOf, e1, e2, e3, ea, e4, eb, e5]
    rw [b, goOn_nx]
    exact f1
include hN
theorem numbers_ok (l : Nat) {M0 M : Mem} {n : Nat} (hn : n < M0.length) (h : Dr M0 n M) : ∃ (s : Six) (M1 : Mem), Sx 100 s ∧ Unit6 s ∧ Dr M0 n M1 ∧ callD T (l + 2) fn [.rf n] M = some (.ok (.d s.tup) M1) := by
  obtain ⟨r0, m0, p0, q0, k0, e0⟩ := draw_ok hD l hn h 5 (by decide) (by decide)
  obtain ⟨s, v2, v3, v4, m1, f1, k1, sx, us⟩ := numLoop hD hP l hn (rngL 0 r0) id6 6 none none none none m0 (by rw [rngL_len]; omega) (by decide) k0 (sx_le sx_id (by decide)) (.inl rfl)
  obtain ⟨r2, m2, p2, q2, k2, e2⟩ := draw_ok hD l hn k1 21 (by decide) (by decide)
  obtain ⟨r3, m3, p3, q3, k3, e3⟩ := draw_ok hD l hn k2 1000000000 (by decide) (by decide)
  obtain ⟨r4, m4, p4, q4, k4, e4⟩ := draw_ok hD l hn k3 1000000000 (by decide) (by decide)
  obtain ⟨r5, m5, p5, q5, k5, e5⟩ := draw_ok hD l hn k4 3 (by decide) (by decide)
  obtain ⟨r6, m6, p6, q6, k6, e6⟩ := draw_ok hD l hn k5 3 (by decide) (by decide)
  have pick : ∀ r : Int, 0 ≤ r → r < 3 → ∃ z : Int, Sm 90 z ∧ L2.atI [D.int (r2 - 10), .int (r3 * 1000000000), .int (-r4)] r = some (.int z) := by
    intro r h1 h2
    obtain ⟨a, ha, ea⟩ := atI_some [D.int (r2 - 10), .int (r3 * 1000000000), .int (-r4)] r h1 (by simpa using h2)
    simp only [List.mem_cons, List.not_mem_nil, or_false] at ha
    rcases ha with rfl | rfl | rfl
    · exact ⟨_, by unfold Sm; omega, ea⟩
    · exact ⟨_, by unfold Sm; omega, ea⟩
    · exact ⟨_, by unfold Sm; omega, ea⟩
  obtain ⟨u, su, eu⟩ := pick r5 p5 q5
  obtain ⟨w, sw, ew⟩ := pick r6 p6 q6
  have lx : 6 + 8 * (rngL 0 r0).length ≤ 100 := by rw [rngL_len]; omega
  have sx := sx_le sx lx
  refine ⟨⟨s.a, s.b, s.c, s.d, u, w⟩, m6, ⟨sx.1, sx.2.1, sx.2.2.1, sx.2.2.2.1, su.le (by decide), sw.le (by decide)⟩, us, k6, ?_⟩
  rw [call_eq hN rfl (l + 1) _ _ rfl]
  have rr := rR_1 (M := m0) r0 p0 (by omega)
  show endFn false M.length (denSs (callD T (l + 1)) (.cons (hdS (bNumbers fd fp)) (.cons (.for (.nm 2) (.range (.cons (.call fd (.cons (.var 0) (.cons (.cst (.int 5)) .nil))) .nil)) (bodyOf (hdS (tlS (bNumbers fd fp))))) (tlS (tlS (bNumbers fd fp))))) [some (.rf n), none, none, none, none, none] M) = _
  rw [stp (env1 := [some (.rf n), some (.d (lin id6)), none, none, none, none]) (M1 := M) (by simp [bNumbers, hdS, lin, id6]),
    stp (env1 := [some (.rf n), some (.d (lin s)), v2, v3, v4, none]) (M1 := m1) (by
      rw [eS_for]
      simp only [eI_range, eEs_cons, eEs_nil, eE_call, eE_var, eE_cst, List.getElem?_cons_zero, bnd_ok, e0, rr, bndS_ok]
      exact f1)]
  have tk : m6.take M.length = m6 := List.take_of_length_le (by rw [k6.len, h.len]; exact Nat.le_refl _)
  have z := opD_addT [.int s.a, .int s.b, .int s.c, .int s.d] [.int u, .int w] (by simp)
  simp only [List.cons_append, List.nil_append] at z
  simp [bNumbers, tlS, pow9, e2, e3, e4, e5, e6, eu, ew, opD_mulS _ 1000000000 (.inr (by decide)), lin, Six.tup, z, tk]
omit hP hD hN
theorem image_ok (hI : T fi = some fImage) (l : Nat) (s : Six) (p : Pt) (M : Mem) {k : Nat} (hk : k ≤ 300000) (hs : Sx k s) (hp : Sp k p) : callD T (l + 1) fi [.d s.tup, .d (ptD p)] M = some (.ok (.d (ptD (img s p))) M) := by
  rw [call_eq hI rfl l _ M rfl]
  obtain ⟨a, b, c, d, e, f⟩ := hs
  have m : ∀ {i j : Int}, Sm k i → Sm k j → opD .mul [.int i, .int j] = some (.int (i * j)) := fun h1 h2 => opD_mulB h1 h2 (by omega) (by omega)
  simp [fImage, bImage, startE, Six.tup, ptD, atI_0, atI_1, m a hp.1, m b hp.2, m c hp.1, m d hp.2, img]
end
end KK

/-! the laws' own curves -/
namespace KK
open PySem PyI FS
open NG (Pt Cvx Grw)
def bCurve (fd : Nat) (a e1 e2 : Int) : ISs := (.cons (.par [1, 2, 3, 4] (.cons (.cst (.int (0))) (.cons (.cst (.int (0))) (.cons (.op .neg (.cons (.op .pow (.cons (.cst (.int (10))) (.cons (.cst (.int (e1))) .nil))) .nil)) (.cons (.mk .lst (.cons (.op .tup (.cons (.cst (.int (0))) (.cons (.cst (.int (0))) .nil))) .nil)) .nil))))) (.cons (.for (.nm 5) (.range (.cons (.op .add (.cons (.cst (.int (a))) (.cons (.call fd (.cons (.var 0) (.cons (.cst (.int (5))) .nil))) .nil))) .nil)) (.cons (.set (.nm 6) (.op .add (.cons (.cst (.int (1))) (.cons (.call fd (.cons (.var 0) (.cons (.op .pow (.cons (.cst (.int (10))) (.cons (.cst (.int (e2))) .nil))) .nil))) .nil)))) (.cons (.set (.nm 3) (.op .add (.cons (.op .add (.cons (.var 3) (.cons (.cst (.int (1))) .nil))) (.cons (.call fd (.cons (.var 0) (.cons (.op .pow (.cons (.cst (.int (10))) (.cons (.cst (.int (e1))) .nil))) .nil))) .nil)))) (.cons (.par [1, 2] (.cons (.op .add (.cons (.var 1) (.cons (.var 6) .nil))) (.cons (.op .add (.cons (.op .add (.cons (.var 2) (.cons (.op .mul (.cons (.var 6) (.cons (.var 3) .nil))) .nil))) (.cons (.call fd (.cons (.var 0) (.cons (.var 6) .nil))) .nil))) .nil))) (.cons (.app (.var 4) (.op .tup (.cons (.var 1) (.cons (.var 2) .nil)))) .nil))))) (.cons (.ret (.var 4)) .nil)))
def fCurve (fd : Nat) (a e1 e2 : Int) : Fn := { np := 1, star := false, ns := 7, body := bCurve fd a e1 e2, keep := false }
theorem drSnoc {M0 M : Mem} {n : Nat} (hn : n < M0.length) (h : Dr M0 n M) (c : Cell) : Dr (M0 ++ [c]) n (M ++ [c]) := by
  obtain ⟨a, b, h1, h2, rfl⟩ := h
  refine ⟨a, b, h1, h2, ?_⟩
  unfold dm
  rw [List.set_append_left _ _ hn]
theorem drBack {M0 M : Mem} {n : Nat} (hn : n < M0.length) {c : Cell} (h : Dr (M0 ++ [c]) n M) : ∃ M1, M = M1 ++ [c] ∧ Dr M0 n M1 := by
  obtain ⟨a, b, h1, h2, rfl⟩ := h
  refine ⟨M0.set n (.lst [.int a, .int b]), ?_, a, b, h1, h2, rfl⟩
  unfold dm
  rw [List.set_append_left _ _ hn]
section
variable {T : Tab} {fd f : Nat} (hD : T fd = some fDraw)
include hD
/-- a draw beside a further cell -/
theorem draw_beside (l : Nat) {M0 M : Mem} {n : Nat} (hn : n < M0.length) (h : Dr M0 n M) (c : Cell) (u : Int) (hu : 0 < u) (hu2 : divOk u = true) : ∃ (r : Int) (M1 : Mem), 0 ≤ r ∧ r < u ∧ Dr M0 n M1 ∧
    callD T (l + 1) fd [.rf n, .d (.int u)] (M ++ [c]) = some (.ok (.d (.int r)) (M1 ++ [c])) := by
  obtain ⟨r, m, p, q, k, e⟩ := draw_ok hD l (M0 := M0 ++ [c]) (by simp; omega) (drSnoc hn h c) u hu hu2
  obtain ⟨m1, rfl, k1⟩ := drBack hn k
  exact ⟨r, m1, p, q, k1, e⟩
theorem curveLoop (a e1 e2 B1 B2 : Int) (p1 : opD .pow [.int 10, .int e1] = some (.int B1)) (p2 : opD .pow [.int 10, .int e2] = some (.int B2)) (b1 : 0 < B1 ∧ B1 ≤ 1000000) (b2 : 0 < B2 ∧ B2 ≤ 1000000000)
    (l : Nat) {M0 : Mem} {n : Nat} (hn : n < M0.length) : ∀ (xs : List D) (i : Nat) (Q : List Pt) (q : Pt) (s : Int) (v5 v6 : Option Val) (M : Mem), i + xs.length ≤ 7 → Q.length = i → Dr M0 n M → Grw s (Q ++ [q]) → (∀ p ∈ Q ++ [q], Sp (60 + 2 * i) p) → -B1 ≤ s → s ≤ -B1 + i * B1 →
    ∃ (Q' : List Pt) (s' : Int) (v5' v6' v1' v2' v3' : Option Val) (M1 : Mem), Q'.length = i + xs.length + 1 ∧ Grw s' Q' ∧ (∀ p ∈ Q', Sp 90 p) ∧ Dr M0 n M1 ∧
      forL (.nm 5) (denSs (callD T (l + 1)) (bodyOf (hdS (tlS (bCurve fd a e1 e2))))) xs [some (.rf n), iv q.1, iv q.2, iv s, some (.rf M0.length), v5, v6] (M ++ [.lst ((Q ++ [q]).map ptD)]) = some (.nx [some (.rf n), v1', v2', v3', some (.rf M0.length), v5', v6'] (M1 ++ [.lst (Q'.map ptD)]))
  | [], i, Q, q, s, v5, v6, M, hi, hQ, h, hg, hp, hs1, hs2 => ⟨Q ++ [q], s, v5, v6, _, _, _, M, by simp [hQ], hg, fun p z => (hp p z).le (by simp at hi; omega), h, rfl⟩
  | x :: xs, i, Q, q, s, v5, v6, M, hi, hQ, h, hg, hp, hs1, hs2 => by
    rw [List.length_cons] at hi
    have dk : ∀ u : Int, 0 < u → u ≤ 2000000000 → divOk u = true := fun u h1 h2 => divOk_of h1 (k := 40) (by unfold Sm; omega) (by decide)
    obtain ⟨r1, m1, a1, c1, k1, d1⟩ := draw_beside hD l hn h (.lst ((Q ++ [q]).map ptD)) B2 b2.1 (dk _ b2.1 (by omega))
    obtain ⟨r2, m2, a2, c2, k2, d2⟩ := draw_beside hD l hn k1 (.lst ((Q ++ [q]).map ptD)) B1 b1.1 (dk _ b1.1 (by omega))
    obtain ⟨r3, m3, a3, c3, k3, d3⟩ := draw_beside hD l hn k2 (.lst ((Q ++ [q]).map ptD)) (1 + r1) (by omega) (dk _ (by omega) (by omega))
    have len : m3.length = M0.length := k3.len
    have iB : (i : Int) * B1 ≤ 7000000 := by
      have : (i : Int) * B1 ≤ 7 * 1000000 := Int.mul_le_mul (by omega) b1.2 (by omega) (by omega)
      omega
    have ss : Sm 24 (s + 1 + r2) := by unfold Sm; omega
    have sd : Sm 31 (1 + r1) := by unfold Sm; omega
    have ml := opD_mulB sd ss (by decide) (by decide)
    have hq := hp q (by simp)
    have sq : Sp (60 + 2 * (i + 1)) (q.1 + (1 + r1), q.2 + (1 + r1) * (s + 1 + r2) + r3) := by
      refine ⟨((hq.1.add ((sd.le (by omega : 31 ≤ 60 + 2 * i)))).le (by omega)), ?_⟩
      have s3 : Sm 31 r3 := by unfold Sm; omega
      exact ((hq.2.add ((sd.mul ss).le (by omega : 31 + 24 ≤ 60 + 2 * i))).add (s3.le (by omega))).le (by omega)
    have g := Grw.add (s' := s + 1 + r2) (d := 1 + r1) (r := r3) hg (by omega) (by omega) a3 c3
    obtain ⟨Q', s', v5', v6', v1', v2', v3', M1, z1, z2, z3, z4, z5⟩ := curveLoop a e1 e2 B1 B2 p1 p2 b1 b2 l hn xs (i + 1) (Q ++ [q]) (q.1 + (1 + r1), q.2 + (1 + r1) * (s + 1 + r2) + r3) (s + 1 + r2) (some (.d x)) (iv (1 + r1)) m3 (by omega) (by simp [hQ]) k3 g
      (fun p z => by
        rcases List.mem_append.mp z with z | z
        · exact (hp p z).le (by omega)
        · rw [List.mem_singleton.mp z]; exact sq) (by omega) (by
        have : ((i + 1 : Nat) : Int) * B1 = i * B1 + B1 := by
          rw [Int.natCast_add, Int.add_mul]; simp
        omega)
    refine ⟨Q', s', v5', v6', v1', v2', v3', M1, by rw [z1, List.length_cons]; omega, z2, z3, z4, ?_⟩
    rw [forL_cons (env1 := [some (.rf n), iv q.1, iv q.2, iv s, some (.rf M0.length), some (.d x), v6]) (by simp only [tgN]; rfl)]
    have il : isLst (.rf M0.length) (m3 ++ [.lst ((Q ++ [q]).map ptD)]) = true := by unfold isLst; rw [← len]; simp
    have av : appV (.rf M0.length) (.d (ptD (q.1 + (1 + r1), q.2 + (1 + r1) * (s + 1 + r2) + r3))) (m3 ++ [.lst ((Q ++ [q]).map ptD)]) = some (m3 ++ [.lst (((Q ++ [q]) ++ [(q.1 + (1 + r1), q.2 + (1 + r1) * (s + 1 + r2) + r3)]).map ptD)]) := by
      unfold appV
      rw [← len]
      have sz : ((Q ++ [q]).map ptD).length < sizeLine := szlt (by simp; omega)
      simp only [hold_d, mGet, sz, if_true, mSet]
      simp
    have b : denSs (callD T (l + 1)) (bodyOf (hdS (tlS (bCurve fd a e1 e2)))) [some (.rf n), iv q.1, iv q.2, iv s, some (.rf M0.length), some (.d x), v6] (M ++ [.lst ((Q ++ [q]).map ptD)]) = some (.nx [some (.rf n), iv (q.1 + (1 + r1)), iv (q.2 + (1 + r1) * (s + 1 + r2) + r3), iv (s + 1 + r2), some (.rf M0.length), some (.d x), iv (1 + r1)] (m3 ++ [.lst (((Q ++ [q]) ++ [(q.1 + (1 + r1), q.2 + (1 + r1) * (s + 1 + r2) + r3)]).map ptD)])) := by
      simp only [ptD] at av
      simp only [List.map_append, List.map_cons, List.map_nil, ptD] at d1 d2 d3 il av ⊢
      simp [bCurve, hdS, tlS, bodyOf, p1, p2, d1, d2, d3, ml, parSet, il, av]
    rw [b, goOn_nx]
    exact z5
theorem curve_ok (a e1 e2 B1 B2 : Int) (hT : T f = some (fCurve fd a e1 e2)) (p1 : opD .pow [.int 10, .int e1] = some (.int B1)) (p2 : opD .pow [.int 10, .int e2] = some (.int B2)) (b1 : 0 < B1 ∧ B1 ≤ 1000000) (b2 : 0 < B2 ∧ B2 ≤ 1000000000) (ha : 0 ≤ a ∧ a ≤ 3)
    (l : Nat) {M0 M : Mem} {n : Nat} (hn : n < M0.length) (h : Dr M0 n M) : ∃ (P : List Pt) (s : Int) (M1 : Mem), a + 1 ≤ P.length ∧ P.length ≤ 8 ∧ Grw s P ∧ (∀ p ∈ P, Sp 90 p) ∧ Dr M0 n M1 ∧
      callD T (l + 2) f [.rf n] M = some (.ok (.d (.lst (P.map ptD))) M1) := by
  have len : M.length = M0.length := h.len
  obtain ⟨r, m, q1, q2, k1, d1⟩ := draw_beside hD l hn h (.lst [ptD (0, 0)]) 5 (by decide) (by decide)
  have rr := rR_1 (M := m ++ [.lst [ptD (0, 0)]]) (a + r) (by omega) (by omega)
  obtain ⟨P, s, v5, v6, v1, v2, v3, M1, z1, z2, z3, z4, z5⟩ := curveLoop hD a e1 e2 B1 B2 p1 p2 b1 b2 l hn (rngL 0 (a + r)) 0 [] (0, 0) (-B1) none none m (by rw [rngL_len]; omega) rfl k1 (Grw.one _ _) (fun p z => by
    have : p = (0, 0) := by simpa using z
    subst this
    exact ⟨by unfold Sm; decide, by unfold Sm; decide⟩) (Int.le_refl _) (by omega)
  rw [rngL_len] at z1
  refine ⟨P, s, M1, by omega, by omega, z2, z3, z4, ?_⟩
  rw [call_eq hT rfl (l + 1) _ _ rfl]
  show endFn false M.length (denSs (callD T (l + 1)) (.cons (hdS (bCurve fd a e1 e2)) (.cons (.for (.nm 5) (.range (.cons (.op .add (.cons (.cst (.int a)) (.cons (.call fd (.cons (.var 0) (.cons (.cst (.int 5)) .nil))) .nil))) .nil)) (bodyOf (hdS (tlS (bCurve fd a e1 e2))))) (tlS (tlS (bCurve fd a e1 e2))))) [some (.rf n), none, none, none, none, none, none] M) = _
  have mk := runMk_d .lst [ptD (0, 0)] [ptD (0, 0)] M (opD_lst1 _)
  simp only [List.map_cons, List.map_nil] at mk
  rw [stp (env1 := [some (.rf n), iv 0, iv 0, iv (-B1), some (.rf M0.length), none, none]) (M1 := M ++ [.lst [ptD (0, 0)]]) (by
      rw [← len]
      simp only [ptD] at mk ⊢
      simp [bCurve, hdS, p1, mk, parSet]),
    stp (M1 := M1 ++ [.lst (P.map ptD)]) (by
      rw [eS_for]
      simp only [eI_range, eEs_cons, eEs_nil, eE_op, eE_call, eE_var, eE_cst, List.getElem?_cons_zero, bnd_ok, d1, runOp2, opD_add, Option.map_some, rr, bndS_ok]
      exact z5)]
  have l1 : M1.length = M.length := by rw [z4.len, len]
  have tk : (M1 ++ [Cell.lst (P.map ptD)]).take M.length = M1 := by rw [← l1]; simp
  have g : (M1 ++ [Cell.lst (P.map ptD)])[M.length]? = some (.lst (P.map ptD)) := by rw [← l1]; simp
  rw [← len]
  simp [bCurve, tlS, endFn, endRet, tk, g]
end
end KK

/-! the program and the law: the defs, in the small language (printed by a program) -/
namespace KK
open PySem PySem.Spec PyProof.Rows L2 PyI
def top (i : Nat) : Stmt := PySem.Challenge.pw_latticeshapes_k26_whole_large_polygons_c.main.body.getD i (.Pass ⟨0, 0, 0, 0⟩)
def mem (s : Stmt) (j : Nat) : Stmt := match s with
  | .ClassDef _ _ _ body .. => body.getD j (.Pass ⟨0, 0, 0, 0⟩)
  | _ => s
def tb : Tb := { fns := [(("edge_steps" : PySem.Str), (84 : Nat)), (("corner_turns" : PySem.Str), (85 : Nat)), (("goes_round_once" : PySem.Str), (86 : Nat)), (("double_area_of" : PySem.Str), (125 : Nat)), (("area_and_border" : PySem.Str), (148 : Nat)), (("need_integer" : PySem.Str), (70 : Nat)), (("need_at_least" : PySem.Str), (149 : Nat)), (("common_divisor" : PySem.Str), (3 : Nat)), (("is_point" : PySem.Str), (37 : Nat)), (("first_wrong_point" : PySem.Str), (38 : Nat)), (("need_point" : PySem.Str), (39 : Nat)), (("content" : PySem.Str), (42 : Nat)), (("need_polygon" : PySem.Str), (151 : Nat)), (("need_corners" : PySem.Str), (111 : Nat)), (("known_of" : PySem.Str), (112 : Nat)), (("backwards" : PySem.Str), (114 : Nat)), (("multiple_counts" : PySem.Str), (152 : Nat)), (("_law_draws" : PySem.Str), (4 : Nat)), (("_law_draw" : PySem.Str), (5 : Nat)), (("_law_product" : PySem.Str), (63 : Nat)), (("_law_numbers" : PySem.Str), (64 : Nat)), (("_law_image" : PySem.Str), (76 : Nat)), (("_law_curve" : PySem.Str), (247 : Nat)), (("law" : PySem.Str), (248 : Nat))], dfls := [], xs := [], exs := [], cls := [("Outline", (22, [22])), ("Polygon", (23, [23, 24])), ("ConvexPolygon", (24, [24]))], news := [("Polygon", (23, 91, [10, 11, 12])), ("ConvexPolygon", (24, 105, [10, 11, 12]))], flds := [("kept", (10, [(23, 0), (24, 0)])), ("known", (9, [(22, 0)])), ("sides", (12, [(23, 2), (24, 2)])), ("turns_left", (11, [(23, 1), (24, 1)]))], props := [("corners", [(23, 92), (24, 92)]), ("double_area", [(23, 93), (24, 93)]), ("inner_points", [(23, 95), (24, 95)]), ("total_points", [(23, 96), (24, 96)])], mths := [], cons := [(("Polygon", "MAX_CORNERS"), (.int (60))), (("ConvexPolygon", "MAX_CORNERS"), (.int (60)))], eqs := [(21, 51), (27, 480)], ups := [(23, 24)], reprs := [(21, 52)], glbs := [("LEAST_CORNERS", (.int (3)))], cmts := [], clsv := [], smts := [(("Polygon", "__init__"), (23, 91))], kwd := [], eql := [] }
def b84 : ISs := (.cons (.ret (.lc (.tp [(.tp [(.nm 1), (.nm 2)]), (.tp [(.nm 3), (.nm 4)])]) [1, 2, 3, 4] (.zip (.cons (.var 0) (.cons (.op .add (.cons (.op (.slice true false) (.cons (.var 0) (.cons (.anint (.cst (.int (1)))) .nil))) (.cons (.op (.slice false true) (.cons (.var 0) (.cons (.anint (.cst (.int (1)))) .nil))) .nil))) .nil))) .nil (.op .tup (.cons (.op .sub (.cons (.var 3) (.cons (.var 1) .nil))) (.cons (.op .sub (.cons (.var 4) (.cons (.var 2) .nil))) .nil))))) .nil)
def F84 : Fn := { np := 1, star := false, ns := 5, body := b84, keep := false }
def d84 : DefT := { g := 84, x := "edge_steps", qual := "edge_steps", st := (top 3), N := ["corners", "a", "b", "c", "d"], ps := ["corners"], pv := none, muts := [], fn := F84 }
theorem ok84 : d84.Ok tb := ⟨by kernel_rfl, ⟨rfl, rfl, rfl, by decide +kernel, rfl, by decide +kernel, by decide +kernel⟩, rfl, rfl, rfl⟩
theorem bo84 : BindsOk d84 := fun _ _ _ _ _ _ us hl => match us, hl with | [_], _ => rfl
def b85 : ISs := (.cons (.ret (.lc (.tp [(.tp [(.nm 1), (.nm 2)]), (.tp [(.nm 3), (.nm 4)])]) [1, 2, 3, 4] (.zip (.cons (.op .add (.cons (.op (.slice true false) (.cons (.var 0) (.cons (.anint (.op .neg (.cons (.cst (.int (1))) .nil))) .nil))) (.cons (.op (.slice false true) (.cons (.var 0) (.cons (.anint (.op .neg (.cons (.cst (.int (1))) .nil))) .nil))) .nil))) (.cons (.var 0) .nil))) .nil (.op .sub (.cons (.op .mul (.cons (.var 1) (.cons (.var 4) .nil))) (.cons (.op .mul (.cons (.var 2) (.cons (.var 3) .nil))) .nil))))) .nil)
def F85 : Fn := { np := 1, star := false, ns := 5, body := b85, keep := false }
def d85 : DefT := { g := 85, x := "corner_turns", qual := "corner_turns", st := (top 4), N := ["steps", "a", "b", "c", "d"], ps := ["steps"], pv := none, muts := [], fn := F85 }
theorem ok85 : d85.Ok tb := ⟨by kernel_rfl, ⟨rfl, rfl, rfl, by decide +kernel, rfl, by decide +kernel, by decide +kernel⟩, rfl, rfl, rfl⟩
theorem bo85 : BindsOk d85 := fun _ _ _ _ _ _ us hl => match us, hl with | [_], _ => rfl
def b86 : ISs := (.cons (.ife (.chain .lt .lt (.op .minl (.cons (.var 1) .nil)) (.cst (.int (0))) (.op .maxl (.cons (.var 1) .nil))) (.cons (.ret (.cst (.bl false))) .nil) .nil) (.cons (.ife (.op .lt (.cons (.op .len (.cons (.var 1) .nil)) (.cons (.cst (.int (5))) .nil))) (.cons (.ret (.cst (.bl true))) .nil) .nil) (.cons (.set (.nm 2) (.lc (.nm 4) [4] (.seq (.var 0)) .nil (.op .gt (.cons (.var 4) (.cons (.op .tup (.cons (.cst (.int (0))) (.cons (.cst (.int (0))) .nil))) .nil))))) (.cons (.set (.nm 3) (.lc (.tp [(.nm 5), (.nm 6)]) [5, 6] (.zip (.cons (.var 2) (.cons (.op .add (.cons (.op (.slice true false) (.cons (.var 2) (.cons (.anint (.cst (.int (1)))) .nil))) (.cons (.op (.slice false true) (.cons (.var 2) (.cons (.anint (.cst (.int (1)))) .nil))) .nil))) .nil))) .nil (.eqo true [(21, 51), (27, 480)] [(23, 24)] (.var 5) (.var 6)))) (.cons (.ret (.op .eq (.cons (.op .sum (.cons (.var 3) .nil)) (.cons (.cst (.int (2))) .nil)))) .nil)))))
def F86 : Fn := { np := 2, star := false, ns := 7, body := b86, keep := false }
def d86 : DefT := { g := 86, x := "goes_round_once", qual := "goes_round_once", st := (top 5), N := ["steps", "turns", "ascents", "changes", "step", "one", "other"], ps := ["steps", "turns"], pv := none, muts := [], fn := F86 }
theorem ok86 : d86.Ok tb := ⟨by kernel_rfl, ⟨rfl, rfl, rfl, by decide +kernel, rfl, by decide +kernel, by decide +kernel⟩, rfl, rfl, rfl⟩
theorem bo86 : BindsOk d86 := fun _ _ _ _ _ _ us hl => match us, hl with | [_, _], _ => rfl
def b125 : ISs := (.cons (.ret (.op .sum (.cons (.lc (.tp [(.tp [(.nm 1), (.nm 2)]), (.tp [(.nm 3), (.nm 4)])]) [1, 2, 3, 4] (.zip (.cons (.var 0) (.cons (.op .add (.cons (.op (.slice true false) (.cons (.var 0) (.cons (.anint (.cst (.int (1)))) .nil))) (.cons (.op (.slice false true) (.cons (.var 0) (.cons (.anint (.cst (.int (1)))) .nil))) .nil))) .nil))) .nil (.op .mul (.cons (.op .add (.cons (.var 1) (.cons (.var 3) .nil))) (.cons (.op .sub (.cons (.var 4) (.cons (.var 2) .nil))) .nil)))) .nil))) .nil)
def F125 : Fn := { np := 1, star := false, ns := 5, body := b125, keep := false }
def d125 : DefT := { g := 125, x := "double_area_of", qual := "double_area_of", st := (top 6), N := ["corners", "a", "b", "c", "d"], ps := ["corners"], pv := none, muts := [], fn := F125 }
theorem ok125 : d125.Ok tb := ⟨by kernel_rfl, ⟨rfl, rfl, rfl, by decide +kernel, rfl, by decide +kernel, by decide +kernel⟩, rfl, rfl, rfl⟩
theorem bo125 : BindsOk d125 := fun _ _ _ _ _ _ us hl => match us, hl with | [_], _ => rfl
def b148 : ISs := (.cons (.asg2 1 2 (.cst (.int (0)))) (.cons (.set (.tp [(.nm 3), (.nm 4)]) (.op .ix (.cons (.var 0) (.cons (.op .neg (.cons (.cst (.int (1))) .nil)) .nil)))) (.cons (.for (.tp [(.nm 5), (.nm 6)]) (.seq (.var 0)) (.cons (.par [7, 8] (.cons (.op .sub (.cons (.var 5) (.cons (.var 3) .nil))) (.cons (.op .sub (.cons (.var 6) (.cons (.var 4) .nil))) .nil))) (.cons (.set (.nm 1) (.op .add (.cons (.var 1) (.cons (.op .mul (.cons (.op .add (.cons (.var 3) (.cons (.var 5) .nil))) (.cons (.var 8) .nil))) .nil)))) (.cons (.whl (.op .ne (.cons (.var 8) (.cons (.cst (.int (0))) .nil))) (.cons (.par [7, 8] (.cons (.var 8) (.cons (.op .mod (.cons (.var 7) (.cons (.var 8) .nil))) .nil))) .nil)) (.cons (.set (.nm 2) (.op .add (.cons (.var 2) (.cons (.op .abs (.cons (.var 7) .nil)) .nil)))) (.cons (.par [3, 4] (.cons (.var 5) (.cons (.var 6) .nil))) .nil)))))) (.cons (.ret (.op .tup (.cons (.var 1) (.cons (.var 2) .nil)))) .nil))))
def F148 : Fn := { np := 1, star := false, ns := 9, body := b148, keep := false }
def d148 : DefT := { g := 148, x := "area_and_border", qual := "area_and_border", st := (top 7), N := ["corners", "area", "border", "a", "b", "c", "d", "x", "y"], ps := ["corners"], pv := none, muts := [], fn := F148 }
theorem ok148 : d148.Ok tb := ⟨by kernel_rfl, ⟨rfl, rfl, rfl, by decide +kernel, rfl, by decide +kernel, by decide +kernel⟩, rfl, rfl, rfl⟩
theorem bo148 : BindsOk d148 := fun _ _ _ _ _ _ us hl => match us, hl with | [_], _ => rfl
def b70 : ISs := (.cons (.ife (.or (.not (.op (.isi [.int]) (.cons (.var 0) .nil))) (.or (.op .is (.cons (.var 0) (.cons (.cst (.bl true)) .nil))) (.op .is (.cons (.var 0) (.cons (.cst (.bl false)) .nil))))) (.cons .bad .nil) .nil) .nil)
def F70 : Fn := { np := 1, star := false, ns := 1, body := b70, keep := false }
def d70 : DefT := { g := 70, x := "need_integer", qual := "need_integer", st := (top 20), N := ["value"], ps := ["value"], pv := none, muts := [], fn := F70 }
theorem ok70 : d70.Ok tb := ⟨by kernel_rfl, ⟨rfl, rfl, rfl, by decide +kernel, rfl, by decide +kernel, by decide +kernel⟩, rfl, rfl, rfl⟩
theorem bo70 : BindsOk d70 := fun _ _ _ _ _ _ us hl => match us, hl with | [_], _ => rfl
def b149 : ISs := (.cons (.drop (.call 70 (.cons (.var 0) .nil))) (.cons (.ife (.op .lt (.cons (.var 0) (.cons (.var 1) .nil))) (.cons .bad .nil) .nil) .nil))
def F149 : Fn := { np := 2, star := false, ns := 2, body := b149, keep := false }
def d149 : DefT := { g := 149, x := "need_at_least", qual := "need_at_least", st := (top 21), N := ["value", "least"], ps := ["value", "least"], pv := none, muts := [], fn := F149 }
theorem ok149 : d149.Ok tb := ⟨by kernel_rfl, ⟨rfl, rfl, rfl, by decide +kernel, rfl, by decide +kernel, by decide +kernel⟩, rfl, rfl, rfl⟩
theorem bo149 : BindsOk d149 := fun _ _ _ _ _ _ us hl => match us, hl with | [_, _], _ => rfl
def b3 : ISs := (.cons (.whl (.op .ne (.cons (.var 1) (.cons (.cst (.int (0))) .nil))) (.cons (.par [0, 1] (.cons (.var 1) (.cons (.op .mod (.cons (.var 0) (.cons (.var 1) .nil))) .nil))) .nil)) (.cons (.ret (.op .abs (.cons (.var 0) .nil))) .nil))
def F3 : Fn := { np := 2, star := false, ns := 2, body := b3, keep := false }
def d3 : DefT := { g := 3, x := "common_divisor", qual := "common_divisor", st := (top 22), N := ["a", "b"], ps := ["a", "b"], pv := none, muts := [], fn := F3 }
theorem ok3 : d3.Ok tb := ⟨by kernel_rfl, ⟨rfl, rfl, rfl, by decide +kernel, rfl, by decide +kernel, by decide +kernel⟩, rfl, rfl, rfl⟩
theorem bo3 : BindsOk d3 := fun _ _ _ _ _ _ us hl => match us, hl with | [_, _], _ => rfl
def b37 : ISs := (.cons (.ret (.op .is (.cons (.call 38 (.cons (.op .lst (.cons (.var 0) .nil)) .nil)) (.cons (.cst .non) .nil)))) .nil)
def F37 : Fn := { np := 1, star := false, ns := 1, body := b37, keep := false }
def d37 : DefT := { g := 37, x := "is_point", qual := "is_point", st := (top 24), N := ["value"], ps := ["value"], pv := none, muts := [], fn := F37 }
theorem ok37 : d37.Ok tb := ⟨by kernel_rfl, ⟨rfl, rfl, rfl, by decide +kernel, rfl, by decide +kernel, by decide +kernel⟩, rfl, rfl, rfl⟩
theorem bo37 : BindsOk d37 := fun _ _ _ _ _ _ us hl => match us, hl with | [_], _ => rfl
def b38 : ISs := (.cons (.for (.tp [(.nm 1), (.nm 2)]) (.enum (.cons (.var 0) .nil)) (.cons (.ife (.or (.not (.op (.isi [.tuple]) (.cons (.var 2) .nil))) (.op .ne (.cons (.op .len (.cons (.var 2) .nil)) (.cons (.cst (.int (2))) .nil)))) (.cons (.ret (.var 1)) .nil) .nil) (.cons (.set (.tp [(.nm 3), (.nm 4)]) (.var 2)) (.cons (.ife (.or (.not (.op (.isi [.int]) (.cons (.var 3) .nil))) (.not (.op (.isi [.int]) (.cons (.var 4) .nil)))) (.cons (.ret (.var 1)) .nil) .nil) (.cons (.ife (.or (.op .is (.cons (.var 3) (.cons (.cst (.bl true)) .nil))) (.or (.op .is (.cons (.var 3) (.cons (.cst (.bl false)) .nil))) (.or (.op .is (.cons (.var 4) (.cons (.cst (.bl true)) .nil))) (.op .is (.cons (.var 4) (.cons (.cst (.bl false)) .nil)))))) (.cons (.ret (.var 1)) .nil) .nil) .nil))))) (.cons (.ret (.cst .non)) .nil))
def F38 : Fn := { np := 1, star := false, ns := 5, body := b38, keep := false }
def d38 : DefT := { g := 38, x := "first_wrong_point", qual := "first_wrong_point", st := (top 25), N := ["values", "position", "value", "x", "y"], ps := ["values"], pv := none, muts := [], fn := F38 }
theorem ok38 : d38.Ok tb := ⟨by kernel_rfl, ⟨rfl, rfl, rfl, by decide +kernel, rfl, by decide +kernel, by decide +kernel⟩, rfl, rfl, rfl⟩
theorem bo38 : BindsOk d38 := fun _ _ _ _ _ _ us hl => match us, hl with | [_], _ => rfl
def b39 : ISs := (.cons (.ife (.not (.call 37 (.cons (.var 0) .nil))) (.cons .bad .nil) .nil) .nil)
def F39 : Fn := { np := 1, star := false, ns := 1, body := b39, keep := false }
def d39 : DefT := { g := 39, x := "need_point", qual := "need_point", st := (top 26), N := ["value"], ps := ["value"], pv := none, muts := [], fn := F39 }
theorem ok39 : d39.Ok tb := ⟨by kernel_rfl, ⟨rfl, rfl, rfl, by decide +kernel, rfl, by decide +kernel, by decide +kernel⟩, rfl, rfl, rfl⟩
theorem bo39 : BindsOk d39 := fun _ _ _ _ _ _ us hl => match us, hl with | [_], _ => rfl
def b42 : ISs := (.cons (.drop (.call 39 (.cons (.var 0) .nil))) (.cons (.ret (.call 3 (.cons (.op .ix (.cons (.var 0) (.cons (.cst (.int (0))) .nil))) (.cons (.op .ix (.cons (.var 0) (.cons (.cst (.int (1))) .nil))) .nil)))) .nil))
def F42 : Fn := { np := 1, star := false, ns := 1, body := b42, keep := false }
def d42 : DefT := { g := 42, x := "content", qual := "content", st := (top 27), N := ["point"], ps := ["point"], pv := none, muts := [], fn := F42 }
theorem ok42 : d42.Ok tb := ⟨by kernel_rfl, ⟨rfl, rfl, rfl, by decide +kernel, rfl, by decide +kernel, by decide +kernel⟩, rfl, rfl, rfl⟩
theorem bo42 : BindsOk d42 := fun _ _ _ _ _ _ us hl => match us, hl with | [_], _ => rfl
def b91 : ISs := (.cons (.setfs 0 [10, 11, 12] (.call 112 (.cons (.var 1) .nil))) .nil)
def F91 : Fn := { np := 2, star := false, ns := 2, body := b91, keep := false }
def d91 : DefT := { g := 91, x := "__init__", qual := "Polygon.__init__", st := (mem (top 31) 1), N := ["self", "corners"], ps := ["self", "corners"], pv := none, muts := [], fn := F91 }
theorem ok91 : d91.Ok tb := ⟨by kernel_rfl, ⟨rfl, rfl, rfl, by decide +kernel, rfl, by decide +kernel, by decide +kernel⟩, rfl, rfl, rfl⟩
theorem bo91 : BindsOk d91 := fun _ _ _ _ _ _ us hl => match us, hl with | [_, _], _ => rfl
def b92 : ISs := (.cons (.ret (.fld 10 [(23, 0), (24, 0)] (.var 0))) .nil)
def F92 : Fn := { np := 1, star := false, ns := 1, body := b92, keep := false }
def d92 : DefT := { g := 92, x := "corners", qual := "Polygon.corners", st := (mem (top 31) 2), N := ["self"], ps := ["self"], pv := none, muts := [], fn := F92 }
theorem ok92 : d92.Ok tb := ⟨by kernel_rfl, ⟨rfl, rfl, rfl, by decide +kernel, rfl, by decide +kernel, by decide +kernel⟩, rfl, rfl, rfl⟩
theorem bo92 : BindsOk d92 := fun _ _ _ _ _ _ us hl => match us, hl with | [_], _ => rfl
def b93 : ISs := (.cons (.ret (.call 125 (.cons (.fld 10 [(23, 0), (24, 0)] (.var 0)) .nil))) .nil)
def F93 : Fn := { np := 1, star := false, ns := 1, body := b93, keep := false }
def d93 : DefT := { g := 93, x := "double_area", qual := "Polygon.double_area", st := (mem (top 31) 3), N := ["self"], ps := ["self"], pv := none, muts := [], fn := F93 }
theorem ok93 : d93.Ok tb := ⟨by kernel_rfl, ⟨rfl, rfl, rfl, by decide +kernel, rfl, by decide +kernel, by decide +kernel⟩, rfl, rfl, rfl⟩
theorem bo93 : BindsOk d93 := fun _ _ _ _ _ _ us hl => match us, hl with | [_], _ => rfl
def b95 : ISs := (.cons (.set (.tp [(.nm 1), (.nm 2)]) (.call 148 (.cons (.fld 10 [(23, 0), (24, 0)] (.var 0)) .nil))) (.cons (.ret (.op .fdiv (.cons (.op .add (.cons (.op .sub (.cons (.var 1) (.cons (.var 2) .nil))) (.cons (.cst (.int (2))) .nil))) (.cons (.cst (.int (2))) .nil)))) .nil))
def F95 : Fn := { np := 1, star := false, ns := 3, body := b95, keep := false }
def d95 : DefT := { g := 95, x := "inner_points", qual := "Polygon.inner_points", st := (mem (top 31) 5), N := ["self", "area", "border"], ps := ["self"], pv := none, muts := [], fn := F95 }
theorem ok95 : d95.Ok tb := ⟨by kernel_rfl, ⟨rfl, rfl, rfl, by decide +kernel, rfl, by decide +kernel, by decide +kernel⟩, rfl, rfl, rfl⟩
theorem bo95 : BindsOk d95 := fun _ _ _ _ _ _ us hl => match us, hl with | [_], _ => rfl
def b96 : ISs := (.cons (.set (.tp [(.nm 1), (.nm 2)]) (.call 148 (.cons (.fld 10 [(23, 0), (24, 0)] (.var 0)) .nil))) (.cons (.ret (.op .fdiv (.cons (.op .add (.cons (.op .add (.cons (.var 1) (.cons (.var 2) .nil))) (.cons (.cst (.int (2))) .nil))) (.cons (.cst (.int (2))) .nil)))) .nil))
def F96 : Fn := { np := 1, star := false, ns := 3, body := b96, keep := false }
def d96 : DefT := { g := 96, x := "total_points", qual := "Polygon.total_points", st := (mem (top 31) 6), N := ["self", "area", "border"], ps := ["self"], pv := none, muts := [], fn := F96 }
theorem ok96 : d96.Ok tb := ⟨by kernel_rfl, ⟨rfl, rfl, rfl, by decide +kernel, rfl, by decide +kernel, by decide +kernel⟩, rfl, rfl, rfl⟩
theorem bo96 : BindsOk d96 := fun _ _ _ _ _ _ us hl => match us, hl with | [_], _ => rfl
def b105 : ISs := (.cons (.drop (.call 91 (.cons (.var 0) (.cons (.var 1) .nil)))) (.cons (.ife (.not (.fld 11 [(23, 1), (24, 1)] (.var 0))) (.cons .bad .nil) .nil) .nil))
def F105 : Fn := { np := 2, star := false, ns := 2, body := b105, keep := false }
def d105 : DefT := { g := 105, x := "__init__", qual := "ConvexPolygon.__init__", st := (mem (top 32) 0), N := ["self", "corners"], ps := ["self", "corners"], pv := none, muts := [], fn := F105 }
theorem ok105 : d105.Ok tb := ⟨by kernel_rfl, ⟨rfl, rfl, rfl, by decide +kernel, rfl, by decide +kernel, by decide +kernel⟩, rfl, rfl, rfl⟩
theorem bo105 : BindsOk d105 := fun _ _ _ _ _ _ us hl => match us, hl with | [_, _], _ => rfl
def b151 : ISs := (.cons (.ife (.not (.op (.isi [(.own 23 [23, 24])]) (.cons (.var 0) .nil))) (.cons .bad .nil) .nil) .nil)
def F151 : Fn := { np := 1, star := false, ns := 1, body := b151, keep := false }
def d151 : DefT := { g := 151, x := "need_polygon", qual := "need_polygon", st := (top 33), N := ["value"], ps := ["value"], pv := none, muts := [], fn := F151 }
theorem ok151 : d151.Ok tb := ⟨by kernel_rfl, ⟨rfl, rfl, rfl, by decide +kernel, rfl, by decide +kernel, by decide +kernel⟩, rfl, rfl, rfl⟩
theorem bo151 : BindsOk d151 := fun _ _ _ _ _ _ us hl => match us, hl with | [_], _ => rfl
def b111 : ISs := (.cons (.ife (.not (.op (.isi [.list, .tuple]) (.cons (.var 0) .nil))) (.cons .bad .nil) .nil) (.cons (.ife (.not (.chain .le .le (.cst (.int (3))) (.op .len (.cons (.var 0) .nil)) (.cst (.int (60))))) (.cons .bad .nil) .nil) (.cons (.set (.nm 1) (.call 38 (.cons (.var 0) .nil))) (.cons (.ife (.op .isnot (.cons (.var 1) (.cons (.cst .non) .nil))) (.cons .bad .nil) .nil) .nil))))
def F111 : Fn := { np := 1, star := false, ns := 2, body := b111, keep := false }
def d111 : DefT := { g := 111, x := "need_corners", qual := "need_corners", st := (top 35), N := ["corners", "position"], ps := ["corners"], pv := none, muts := [], fn := F111 }
theorem ok111 : d111.Ok tb := ⟨by kernel_rfl, ⟨rfl, rfl, rfl, by decide +kernel, rfl, by decide +kernel, by decide +kernel⟩, rfl, rfl, rfl⟩
theorem bo111 : BindsOk d111 := fun _ _ _ _ _ _ us hl => match us, hl with | [_], _ => rfl
def b112 : ISs := (.cons (.ife (.op (.isi [(.own 22 [22])]) (.cons (.var 0) .nil)) (.cons (.ret (.fld 9 [(22, 0)] (.var 0))) .nil) .nil) (.cons (.drop (.call 111 (.cons (.var 0) .nil))) (.cons (.set (.nm 1) (.mkt (.var 0))) (.cons (.set (.nm 2) (.call 84 (.cons (.var 1) .nil))) (.cons (.set (.nm 3) (.call 85 (.cons (.var 2) .nil))) (.cons (.ife (.op .isin (.cons (.cst (.int (0))) (.cons (.var 3) .nil))) (.cons .bad .nil) .nil) (.cons (.set (.nm 4) (.call 86 (.cons (.var 2) (.cons (.var 3) .nil)))) (.cons (.ife (.not (.var 4)) (.cons .bad .nil) .nil) (.cons (.set (.nm 5) (.idx (.var 1) (.op .minl (.cons (.var 1) .nil)))) (.cons (.ife (.op .gt (.cons (.op .ix (.cons (.var 3) (.cons (.var 5) .nil))) (.cons (.cst (.int (0))) .nil))) (.cons (.set (.nm 6) (.op .tup (.cons (.op .add (.cons (.op (.slice true false) (.cons (.var 2) (.cons (.anint (.var 5)) .nil))) (.cons (.op (.slice false true) (.cons (.var 2) (.cons (.anint (.var 5)) .nil))) .nil))) (.cons (.op .add (.cons (.op (.slice true false) (.cons (.var 3) (.cons (.anint (.var 5)) .nil))) (.cons (.op (.slice false true) (.cons (.var 3) (.cons (.anint (.var 5)) .nil))) .nil))) .nil)))) (.cons (.ret (.op .tup (.cons (.op .add (.cons (.op (.slice true false) (.cons (.var 1) (.cons (.anint (.var 5)) .nil))) (.cons (.op (.slice false true) (.cons (.var 1) (.cons (.anint (.var 5)) .nil))) .nil))) (.cons (.var 4) (.cons (.var 6) .nil))))) .nil)) .nil) (.cons (.ret (.op .tup (.cons (.call 114 (.cons (.var 1) (.cons (.var 5) .nil))) (.cons (.var 4) (.cons (.cst .non) .nil))))) .nil)))))))))))
def F112 : Fn := { np := 1, star := false, ns := 7, body := b112, keep := false }
def d112 : DefT := { g := 112, x := "known_of", qual := "known_of", st := (top 36), N := ["corners", "given", "steps", "turns", "always_same", "start", "sides"], ps := ["corners"], pv := none, muts := ["given", "turns"], fn := F112 }
theorem ok112 : d112.Ok tb := ⟨by kernel_rfl, ⟨rfl, rfl, rfl, by decide +kernel, rfl, by decide +kernel, by decide +kernel⟩, rfl, rfl, rfl⟩
theorem bo112 : BindsOk d112 := fun _ _ _ _ _ _ us hl => match us, hl with | [_], _ => rfl
def b114 : ISs := (.cons (.ret (.op .add (.cons (.op (.rslice true false) (.cons (.var 0) (.cons (.anint (.var 1)) .nil))) (.cons (.op (.rslice false true) (.cons (.var 0) (.cons (.anint (.var 1)) .nil))) .nil)))) .nil)
def F114 : Fn := { np := 2, star := false, ns := 2, body := b114, keep := false }
def d114 : DefT := { g := 114, x := "backwards", qual := "backwards", st := (top 38), N := ["corners", "start"], ps := ["corners", "start"], pv := none, muts := [], fn := F114 }
theorem ok114 : d114.Ok tb := ⟨by kernel_rfl, ⟨rfl, rfl, rfl, by decide +kernel, rfl, by decide +kernel, by decide +kernel⟩, rfl, rfl, rfl⟩
theorem bo114 : BindsOk d114 := fun _ _ _ _ _ _ us hl => match us, hl with | [_, _], _ => rfl
def b152 : ISs := (.cons (.drop (.call 151 (.cons (.var 0) .nil))) (.cons (.drop (.call 149 (.cons (.var 1) (.cons (.cst (.int (1))) .nil)))) (.cons (.set (.tp [(.nm 2), (.nm 3)]) (.call 148 (.cons (.prop [(23, 92), (24, 92)] (.var 0)) .nil))) (.cons (.par [2, 3] (.cons (.op .mul (.cons (.op .mul (.cons (.var 2) (.cons (.var 1) .nil))) (.cons (.var 1) .nil))) (.cons (.op .mul (.cons (.var 3) (.cons (.var 1) .nil))) .nil))) (.cons (.ret (.op .tup (.cons (.op .add (.cons (.op .fdiv (.cons (.op .add (.cons (.var 2) (.cons (.var 3) .nil))) (.cons (.cst (.int (2))) .nil))) (.cons (.cst (.int (1))) .nil))) (.cons (.op .add (.cons (.op .fdiv (.cons (.op .sub (.cons (.var 2) (.cons (.var 3) .nil))) (.cons (.cst (.int (2))) .nil))) (.cons (.cst (.int (1))) .nil))) .nil)))) .nil)))))
def F152 : Fn := { np := 2, star := false, ns := 4, body := b152, keep := false }
def d152 : DefT := { g := 152, x := "multiple_counts", qual := "multiple_counts", st := (top 41), N := ["polygon", "factor", "area", "border"], ps := ["polygon", "factor"], pv := none, muts := [], fn := F152 }
theorem ok152 : d152.Ok tb := ⟨by kernel_rfl, ⟨rfl, rfl, rfl, by decide +kernel, rfl, by decide +kernel, by decide +kernel⟩, rfl, rfl, rfl⟩
theorem bo152 : BindsOk d152 := fun _ _ _ _ _ _ us hl => match us, hl with | [_, _], _ => rfl
def b4 : ISs := (.cons (.set (.nm 2) (.cst (.int (0)))) (.cons (.ife (.op .ne (.cons (.var 0) (.cons (.op .lst .nil) .nil))) (.cons (.set (.nm 2) (.op .ix (.cons (.var 0) (.cons (.op .mod (.cons (.var 1) (.cons (.op .len (.cons (.var 0) .nil)) .nil))) .nil)))) .nil) .nil) (.cons (.ife (.op .ge (.cons (.var 1) (.cons (.op .len (.cons (.var 0) .nil)) .nil))) (.cons (.set (.nm 2) (.op .mod (.cons (.var 2) (.cons (.cst (.int (1000003))) .nil)))) .nil) .nil) (.cons (.set (.nm 3) (.op .mod (.cons (.op .mul (.cons (.op .add (.cons (.op .add (.cons (.op .mod (.cons (.var 2) (.cons (.cst (.int (2147483629))) .nil))) (.cons (.op .mul (.cons (.cst (.int (104729))) (.cons (.var 1) .nil))) .nil))) (.cons (.cst (.int (11))) .nil))) (.cons (.cst (.int (48271))) .nil))) (.cons (.cst (.int (2147483647))) .nil)))) (.cons (.ret (.mk .lst (.cons (.op .mul (.cons (.var 2) (.cons (.op .int (.cons (.op .ge (.cons (.var 2) (.cons (.op .pow (.cons (.cst (.int (10))) (.cons (.cst (.int (18))) .nil))) .nil))) .nil)) .nil))) (.cons (.var 3) .nil)))) .nil)))))
def F4 : Fn := { np := 2, star := false, ns := 4, body := b4, keep := true }
def d4 : DefT := { g := 4, x := "_law_draws", qual := "_law_draws", st := (top 43), N := ["_law_script", "_law_k", "_law_cell", "_law_seed"], ps := ["_law_script", "_law_k"], pv := none, muts := ["return"], fn := F4 }
theorem ok4 : d4.Ok tb := ⟨by kernel_rfl, ⟨rfl, rfl, rfl, by decide +kernel, rfl, by decide +kernel, by decide +kernel⟩, rfl, rfl, rfl⟩
theorem bo4 : BindsOk d4 := fun _ _ _ _ _ _ us hl => match us, hl with | [_, _], _ => rfl
def b5 : ISs := (.cons (.ife (.op .gt (.cons (.op .ix (.cons (.var 0) (.cons (.cst (.int (0))) .nil))) (.cons (.cst (.int (0))) .nil))) (.cons (.set (.nm 2) (.op .mod (.cons (.op .ix (.cons (.var 0) (.cons (.cst (.int (0))) .nil))) (.cons (.var 1) .nil)))) (.cons (.setix (.var 0) (.cst (.int (0))) (.op .fdiv (.cons (.op .ix (.cons (.var 0) (.cons (.cst (.int (0))) .nil))) (.cons (.var 1) .nil)))) (.cons (.ret (.var 2)) .nil))) .nil) (.cons (.setix (.var 0) (.cst (.int (1))) (.op .mod (.cons (.op .add (.cons (.op .mul (.cons (.op .ix (.cons (.var 0) (.cons (.cst (.int (1))) .nil))) (.cons (.cst (.int (48271))) .nil))) (.cons (.cst (.int (11))) .nil))) (.cons (.cst (.int (2147483647))) .nil)))) (.cons (.ret (.op .mod (.cons (.op .fdiv (.cons (.op .mod (.cons (.op .mul (.cons (.op .ix (.cons (.var 0) (.cons (.cst (.int (1))) .nil))) (.cons (.op .ix (.cons (.var 0) (.cons (.cst (.int (1))) .nil))) .nil))) (.cons (.cst (.int (2147483629))) .nil))) (.cons (.cst (.int (64))) .nil))) (.cons (.var 1) .nil)))) .nil)))
def F5 : Fn := { np := 2, star := false, ns := 3, body := b5, keep := false }
def d5 : DefT := { g := 5, x := "_law_draw", qual := "_law_draw", st := (top 44), N := ["_law_draws_here", "_law_upto", "_law_digit"], ps := ["_law_draws_here", "_law_upto"], pv := none, muts := [], fn := F5 }
theorem ok5 : d5.Ok tb := ⟨by kernel_rfl, ⟨rfl, rfl, rfl, by decide +kernel, rfl, by decide +kernel, by decide +kernel⟩, rfl, rfl, rfl⟩
theorem bo5 : BindsOk d5 := fun _ _ _ _ _ _ us hl => match us, hl with | [_, _], _ => rfl
def b63 : ISs := (.cons (.set (.tp [(.nm 2), (.nm 3), (.nm 4), (.nm 5)]) (.var 0)) (.cons (.set (.tp [(.nm 6), (.nm 7), (.nm 8), (.nm 9)]) (.var 1)) (.cons (.ret (.op .tup (.cons (.op .add (.cons (.op .mul (.cons (.var 6) (.cons (.var 2) .nil))) (.cons (.op .mul (.cons (.var 7) (.cons (.var 4) .nil))) .nil))) (.cons (.op .add (.cons (.op .mul (.cons (.var 6) (.cons (.var 3) .nil))) (.cons (.op .mul (.cons (.var 7) (.cons (.var 5) .nil))) .nil))) (.cons (.op .add (.cons (.op .mul (.cons (.var 8) (.cons (.var 2) .nil))) (.cons (.op .mul (.cons (.var 9) (.cons (.var 4) .nil))) .nil))) (.cons (.op .add (.cons (.op .mul (.cons (.var 8) (.cons (.var 3) .nil))) (.cons (.op .mul (.cons (.var 9) (.cons (.var 5) .nil))) .nil))) .nil)))))) .nil)))
def F63 : Fn := { np := 2, star := false, ns := 10, body := b63, keep := false }
def d63 : DefT := { g := 63, x := "_law_product", qual := "_law_product", st := (top 45), N := ["_law_first", "_law_second", "_law_a", "_law_b", "_law_c", "_law_d", "_law_p", "_law_q", "_law_r", "_law_s"], ps := ["_law_first", "_law_second"], pv := none, muts := [], fn := F63 }
theorem ok63 : d63.Ok tb := ⟨by kernel_rfl, ⟨rfl, rfl, rfl, by decide +kernel, rfl, by decide +kernel, by decide +kernel⟩, rfl, rfl, rfl⟩
theorem bo63 : BindsOk d63 := fun _ _ _ _ _ _ us hl => match us, hl with | [_, _], _ => rfl
def b64 : ISs := (.cons (.set (.nm 1) (.op .tup (.cons (.cst (.int (1))) (.cons (.cst (.int (0))) (.cons (.cst (.int (0))) (.cons (.cst (.int (1))) .nil)))))) (.cons (.for (.nm 2) (.range (.cons (.call 5 (.cons (.var 0) (.cons (.cst (.int (5))) .nil))) .nil)) (.cons (.set (.nm 3) (.op .ix (.cons (.op .lst (.cons (.op .sub (.cons (.call 5 (.cons (.var 0) (.cons (.cst (.int (7))) .nil))) (.cons (.cst (.int (3))) .nil))) (.cons (.op .sub (.cons (.call 5 (.cons (.var 0) (.cons (.cst (.int (61))) .nil))) (.cons (.cst (.int (30))) .nil))) .nil))) (.cons (.call 5 (.cons (.var 0) (.cons (.cst (.int (2))) .nil))) .nil)))) (.cons (.set (.nm 4) (.op .lst (.cons (.op .tup (.cons (.cst (.int (1))) (.cons (.var 3) (.cons (.cst (.int (0))) (.cons (.cst (.int (1))) .nil))))) (.cons (.op .tup (.cons (.cst (.int (1))) (.cons (.cst (.int (0))) (.cons (.var 3) (.cons (.cst (.int (1))) .nil))))) (.cons (.op .tup (.cons (.cst (.int (0))) (.cons (.op .neg (.cons (.cst (.int (1))) .nil)) (.cons (.cst (.int (1))) (.cons (.cst (.int (0))) .nil))))) (.cons (.op .tup (.cons (.cst (.int (1))) (.cons (.cst (.int (0))) (.cons (.cst (.int (0))) (.cons (.op .neg (.cons (.cst (.int (1))) .nil)) .nil))))) (.cons (.op .tup (.cons (.cst (.int (0))) (.cons (.cst (.int (1))) (.cons (.cst (.int (1))) (.cons (.cst (.int (0))) .nil))))) .nil))))))) (.cons (.set (.nm 1) (.call 63 (.cons (.var 1) (.cons (.op .ix (.cons (.var 4) (.cons (.call 5 (.cons (.var 0) (.cons (.cst (.int (5))) .nil))) .nil))) .nil)))) .nil)))) (.cons (.set (.nm 5) (.op .lst (.cons (.op .sub (.cons (.call 5 (.cons (.var 0) (.cons (.cst (.int (21))) .nil))) (.cons (.cst (.int (10))) .nil))) (.cons (.op .mul (.cons (.call 5 (.cons (.var 0) (.cons (.op .pow (.cons (.cst (.int (10))) (.cons (.cst (.int (9))) .nil))) .nil))) (.cons (.op .pow (.cons (.cst (.int (10))) (.cons (.cst (.int (9))) .nil))) .nil))) (.cons (.op .sub (.cons (.cst (.int (0))) (.cons (.call 5 (.cons (.var 0) (.cons (.op .pow (.cons (.cst (.int (10))) (.cons (.cst (.int (9))) .nil))) .nil))) .nil))) .nil))))) (.cons (.ret (.op .add (.cons (.var 1) (.cons (.op .tup (.cons (.op .ix (.cons (.var 5) (.cons (.call 5 (.cons (.var 0) (.cons (.cst (.int (3))) .nil))) .nil))) (.cons (.op .ix (.cons (.var 5) (.cons (.call 5 (.cons (.var 0) (.cons (.cst (.int (3))) .nil))) .nil))) .nil))) .nil)))) .nil))))
def F64 : Fn := { np := 1, star := false, ns := 6, body := b64, keep := false }
def d64 : DefT := { g := 64, x := "_law_numbers", qual := "_law_numbers", st := (top 46), N := ["_law_draws_here", "_law_found", "_law_turn", "_law_k", "_law_factors", "_law_shift"], ps := ["_law_draws_here"], pv := none, muts := [], fn := F64 }
theorem ok64 : d64.Ok tb := ⟨by kernel_rfl, ⟨rfl, rfl, rfl, by decide +kernel, rfl, by decide +kernel, by decide +kernel⟩, rfl, rfl, rfl⟩
theorem bo64 : BindsOk d64 := fun _ _ _ _ _ _ us hl => match us, hl with | [_], _ => rfl
def b76 : ISs := (.cons (.set (.tp [(.nm 2), (.nm 3), (.nm 4), (.nm 5), (.nm 6), (.nm 7)]) (.var 0)) (.cons (.ret (.op .tup (.cons (.op .add (.cons (.op .add (.cons (.op .mul (.cons (.var 2) (.cons (.op .ix (.cons (.var 1) (.cons (.cst (.int (0))) .nil))) .nil))) (.cons (.op .mul (.cons (.var 3) (.cons (.op .ix (.cons (.var 1) (.cons (.cst (.int (1))) .nil))) .nil))) .nil))) (.cons (.var 6) .nil))) (.cons (.op .add (.cons (.op .add (.cons (.op .mul (.cons (.var 4) (.cons (.op .ix (.cons (.var 1) (.cons (.cst (.int (0))) .nil))) .nil))) (.cons (.op .mul (.cons (.var 5) (.cons (.op .ix (.cons (.var 1) (.cons (.cst (.int (1))) .nil))) .nil))) .nil))) (.cons (.var 7) .nil))) .nil)))) .nil))
def F76 : Fn := { np := 2, star := false, ns := 8, body := b76, keep := false }
def d76 : DefT := { g := 76, x := "_law_image", qual := "_law_image", st := (top 47), N := ["_law_numbers_here", "_law_point", "_law_a", "_law_b", "_law_c", "_law_d", "_law_e", "_law_f"], ps := ["_law_numbers_here", "_law_point"], pv := none, muts := [], fn := F76 }
theorem ok76 : d76.Ok tb := ⟨by kernel_rfl, ⟨rfl, rfl, rfl, by decide +kernel, rfl, by decide +kernel, by decide +kernel⟩, rfl, rfl, rfl⟩
theorem bo76 : BindsOk d76 := fun _ _ _ _ _ _ us hl => match us, hl with | [_, _], _ => rfl
def b247 : ISs := (.cons (.par [1, 2, 3, 4] (.cons (.cst (.int (0))) (.cons (.cst (.int (0))) (.cons (.op .neg (.cons (.op .pow (.cons (.cst (.int (10))) (.cons (.cst (.int (6))) .nil))) .nil)) (.cons (.mk .lst (.cons (.op .tup (.cons (.cst (.int (0))) (.cons (.cst (.int (0))) .nil))) .nil)) .nil))))) (.cons (.for (.nm 5) (.range (.cons (.op .add (.cons (.cst (.int (3))) (.cons (.call 5 (.cons (.var 0) (.cons (.cst (.int (5))) .nil))) .nil))) .nil)) (.cons (.set (.nm 6) (.op .add (.cons (.cst (.int (1))) (.cons (.call 5 (.cons (.var 0) (.cons (.op .pow (.cons (.cst (.int (10))) (.cons (.cst (.int (9))) .nil))) .nil))) .nil)))) (.cons (.set (.nm 3) (.op .add (.cons (.op .add (.cons (.var 3) (.cons (.cst (.int (1))) .nil))) (.cons (.call 5 (.cons (.var 0) (.cons (.op .pow (.cons (.cst (.int (10))) (.cons (.cst (.int (6))) .nil))) .nil))) .nil)))) (.cons (.par [1, 2] (.cons (.op .add (.cons (.var 1) (.cons (.var 6) .nil))) (.cons (.op .add (.cons (.op .add (.cons (.var 2) (.cons (.op .mul (.cons (.var 6) (.cons (.var 3) .nil))) .nil))) (.cons (.call 5 (.cons (.var 0) (.cons (.var 6) .nil))) .nil))) .nil))) (.cons (.app (.var 4) (.op .tup (.cons (.var 1) (.cons (.var 2) .nil)))) .nil))))) (.cons (.ret (.var 4)) .nil)))
def F247 : Fn := { np := 1, star := false, ns := 7, body := b247, keep := false }
def d247 : DefT := { g := 247, x := "_law_curve", qual := "_law_curve", st := (top 48), N := ["_law_draws_here", "_law_x", "_law_y", "_law_slope", "_law_corners", "_law_turn", "_law_step"], ps := ["_law_draws_here"], pv := none, muts := ["_law_corners"], fn := F247 }
theorem ok247 : d247.Ok tb := ⟨by kernel_rfl, ⟨rfl, rfl, rfl, by decide +kernel, rfl, by decide +kernel, by decide +kernel⟩, rfl, rfl, rfl⟩
theorem bo247 : BindsOk d247 := fun _ _ _ _ _ _ us hl => match us, hl with | [_], _ => rfl
def b248 : ISs := (.cons (.for (.nm 1) (.range (.cons (.op .max2 (.cons (.cst (.int (1))) (.cons (.op .len (.cons (.var 0) .nil)) .nil))) .nil)) (.cons (.set (.nm 2) (.call 4 (.cons (.var 0) (.cons (.var 1) .nil)))) (.cons (.set (.nm 3) (.call 64 (.cons (.var 2) .nil))) (.cons (.set (.nm 4) (.lc (.nm 14) [14] (.seq (.call 247 (.cons (.var 2) .nil))) .nil (.call 76 (.cons (.var 3) (.cons (.var 14) .nil))))) (.cons (.set (.nm 5) (.op .len (.cons (.var 4) .nil))) (.cons (.set (.nm 6) (.call 5 (.cons (.var 2) (.cons (.op .sub (.cons (.var 5) (.cons (.cst (.int (2))) .nil))) .nil)))) (.cons (.set (.nm 7) (.op .add (.cons (.op .add (.cons (.var 6) (.cons (.cst (.int (2))) .nil))) (.cons (.call 5 (.cons (.var 2) (.cons (.op .sub (.cons (.op .sub (.cons (.op .sub (.cons (.var 5) (.cons (.var 6) .nil))) (.cons (.cst (.int (2))) .nil))) (.cons (.op .int (.cons (.op .eq (.cons (.var 6) (.cons (.cst (.int (0))) .nil))) .nil)) .nil))) .nil))) .nil)))) (.cons (.set (.nm 8) (.new 24 [10, 11, 12] 105 (.dfl []) (.cons (.var 4) .nil))) (.cons (.set (.nm 9) (.new 24 [10, 11, 12] 105 (.dfl []) (.cons (.op (.slice true true) (.cons (.var 4) (.cons (.anint (.var 6)) (.cons (.anint (.op .add (.cons (.var 7) (.cons (.cst (.int (1))) .nil)))) .nil)))) .nil))) (.cons (.set (.nm 10) (.new 24 [10, 11, 12] 105 (.dfl []) (.cons (.op .add (.cons (.op (.slice false true) (.cons (.var 4) (.cons (.anint (.op .add (.cons (.var 6) (.cons (.cst (.int (1))) .nil)))) .nil))) (.cons (.op (.slice true false) (.cons (.var 4) (.cons (.anint (.var 7)) .nil))) .nil))) .nil))) (.cons (.set (.nm 11) (.call 42 (.cons (.op .tup (.cons (.op .sub (.cons (.op .ix (.cons (.op .ix (.cons (.var 4) (.cons (.var 7) .nil))) (.cons (.cst (.int (0))) .nil))) (.cons (.op .ix (.cons (.op .ix (.cons (.var 4) (.cons (.var 6) .nil))) (.cons (.cst (.int (0))) .nil))) .nil))) (.cons (.op .sub (.cons (.op .ix (.cons (.op .ix (.cons (.var 4) (.cons (.var 7) .nil))) (.cons (.cst (.int (1))) .nil))) (.cons (.op .ix (.cons (.op .ix (.cons (.var 4) (.cons (.var 6) .nil))) (.cons (.cst (.int (1))) .nil))) .nil))) .nil))) .nil))) (.cons (.ife (.op .ne (.cons (.op .add (.cons (.prop [(23, 93), (24, 93)] (.var 9)) (.cons (.prop [(23, 93), (24, 93)] (.var 10)) .nil))) (.cons (.prop [(23, 93), (24, 93)] (.var 8)) .nil))) (.cons (.ret (.cst (.bl false))) .nil) .nil) (.cons (.ife (.op .ne (.cons (.op .add (.cons (.prop [(23, 96), (24, 96)] (.var 9)) (.cons (.prop [(23, 96), (24, 96)] (.var 10)) .nil))) (.cons (.op .add (.cons (.op .add (.cons (.prop [(23, 96), (24, 96)] (.var 8)) (.cons (.var 11) .nil))) (.cons (.cst (.int (1))) .nil))) .nil))) (.cons (.ret (.cst (.bl false))) .nil) .nil) (.cons (.ife (.op .ne (.cons (.op .add (.cons (.prop [(23, 95), (24, 95)] (.var 9)) (.cons (.prop [(23, 95), (24, 95)] (.var 10)) .nil))) (.cons (.op .add (.cons (.op .sub (.cons (.prop [(23, 95), (24, 95)] (.var 8)) (.cons (.var 11) .nil))) (.cons (.cst (.int (1))) .nil))) .nil))) (.cons (.ret (.cst (.bl false))) .nil) .nil) (.cons (.for (.nm 12) (.seq (.op .lst (.cons (.cst (.int (1))) (.cons (.cst (.int (2))) (.cons (.op .add (.cons (.cst (.int (1))) (.cons (.call 5 (.cons (.var 2) (.cons (.op .pow (.cons (.cst (.int (10))) (.cons (.cst (.int (5))) .nil))) .nil))) .nil))) .nil))))) (.cons (.set (.nm 13) (.lc (.nm 15) [15] (.seq (.op .lst (.cons (.var 9) (.cons (.var 10) (.cons (.var 8) .nil))))) .nil (.call 152 (.cons (.var 15) (.cons (.var 12) .nil))))) (.cons (.ife (.op .ne (.cons (.op .add (.cons (.op .ix (.cons (.op .ix (.cons (.var 13) (.cons (.cst (.int (0))) .nil))) (.cons (.cst (.int (0))) .nil))) (.cons (.op .ix (.cons (.op .ix (.cons (.var 13) (.cons (.cst (.int (1))) .nil))) (.cons (.cst (.int (0))) .nil))) .nil))) (.cons (.op .add (.cons (.op .add (.cons (.op .ix (.cons (.op .ix (.cons (.var 13) (.cons (.cst (.int (2))) .nil))) (.cons (.cst (.int (0))) .nil))) (.cons (.op .mul (.cons (.var 12) (.cons (.var 11) .nil))) .nil))) (.cons (.cst (.int (1))) .nil))) .nil))) (.cons (.ret (.cst (.bl false))) .nil) .nil) (.cons (.ife (.op .ne (.cons (.op .add (.cons (.op .ix (.cons (.op .ix (.cons (.var 13) (.cons (.cst (.int (0))) .nil))) (.cons (.cst (.int (1))) .nil))) (.cons (.op .ix (.cons (.op .ix (.cons (.var 13) (.cons (.cst (.int (1))) .nil))) (.cons (.cst (.int (1))) .nil))) .nil))) (.cons (.op .add (.cons (.op .sub (.cons (.op .ix (.cons (.op .ix (.cons (.var 13) (.cons (.cst (.int (2))) .nil))) (.cons (.cst (.int (1))) .nil))) (.cons (.op .mul (.cons (.var 12) (.cons (.var 11) .nil))) .nil))) (.cons (.cst (.int (1))) .nil))) .nil))) (.cons (.ret (.cst (.bl false))) .nil) .nil) .nil)))) .nil))))))))))))))) (.cons (.ret (.cst (.bl true))) .nil))
def F248 : Fn := { np := 1, star := false, ns := 16, body := b248, keep := false }
def d248 : DefT := { g := 248, x := "law", qual := "law", st := (top 49), N := ["_law_script", "_law_k", "_law_draws_here", "_law_numbers_here", "_law_corners", "_law_many", "_law_one", "_law_two", "_law_whole", "_law_near", "_law_far", "_law_along", "_law_factor", "_law_parts", "_law_corner", "_law_polygon"], ps := ["_law_script"], pv := none, muts := [], fn := F248 }
theorem ok248 : d248.Ok tb := ⟨by kernel_rfl, ⟨rfl, rfl, rfl, by decide +kernel, rfl, by decide +kernel, by decide +kernel⟩, rfl, rfl, rfl⟩
theorem bo248 : BindsOk d248 := fun _ _ _ _ _ _ us hl => match us, hl with | [_], _ => rfl
def defs : List DefT := [d84, d85, d86, d125, d148, d70, d149, d3, d37, d38, d39, d42, d91, d92, d93, d95, d96, d105, d151, d111, d112, d114, d152, d4, d5, d63, d64, d76, d247, d248]
def T : Tab := tabOf defs
theorem T84 : T 84 = some F84 := by kernel_rfl
theorem T85 : T 85 = some F85 := by kernel_rfl
theorem T86 : T 86 = some F86 := by kernel_rfl
theorem T125 : T 125 = some F125 := by kernel_rfl
theorem T148 : T 148 = some F148 := by kernel_rfl
theorem T70 : T 70 = some F70 := by kernel_rfl
theorem T149 : T 149 = some F149 := by kernel_rfl
theorem T3 : T 3 = some F3 := by kernel_rfl
theorem T37 : T 37 = some F37 := by kernel_rfl
theorem T38 : T 38 = some F38 := by kernel_rfl
theorem T39 : T 39 = some F39 := by kernel_rfl
theorem T42 : T 42 = some F42 := by kernel_rfl
theorem T91 : T 91 = some F91 := by kernel_rfl
theorem T92 : T 92 = some F92 := by kernel_rfl
theorem T93 : T 93 = some F93 := by kernel_rfl
theorem T95 : T 95 = some F95 := by kernel_rfl
theorem T96 : T 96 = some F96 := by kernel_rfl
theorem T105 : T 105 = some F105 := by kernel_rfl
theorem T151 : T 151 = some F151 := by kernel_rfl
theorem T111 : T 111 = some F111 := by kernel_rfl
theorem T112 : T 112 = some F112 := by kernel_rfl
theorem T114 : T 114 = some F114 := by kernel_rfl
theorem T152 : T 152 = some F152 := by kernel_rfl
theorem T4 : T 4 = some F4 := by kernel_rfl
theorem T5 : T 5 = some F5 := by kernel_rfl
theorem T63 : T 63 = some F63 := by kernel_rfl
theorem T64 : T 64 = some F64 := by kernel_rfl
theorem T76 : T 76 = some F76 := by kernel_rfl
theorem T247 : T 247 = some F247 := by kernel_rfl
theorem T248 : T 248 = some F248 := by kernel_rfl
theorem oks : ∀ d ∈ defs, d.Ok tb := (ac ok84 (ac ok85 (ac ok86 (ac ok125 (ac ok148 (ac ok70 (ac ok149 (ac ok3 (ac ok37 (ac ok38 (ac ok39 (ac ok42 (ac ok91 (ac ok92 (ac ok93 (ac ok95 (ac ok96 (ac ok105 (ac ok151 (ac ok111 (ac ok112 (ac ok114 (ac ok152 (ac ok4 (ac ok5 (ac ok63 (ac ok64 (ac ok76 (ac ok247 (ac ok248 an))))))))))))))))))))))))))))))
end KK

/-! the law -/
namespace KK
open PySem PyI FS
open NG (Pt at' nx pr dif crs orient pos Cvx cyc fA fG)
theorem tt84 : T 84 = some PG.F84 := T84
theorem tt85 : T 85 = some PG.F85 := T85
theorem uu86 : ∃ r0 r1, T 86 = some (PG.F86 r0 r1) := ⟨_, _, T86⟩
theorem tt125 : T 125 = some PG.F125 := T125
theorem tt148 : T 148 = some PG.F148 := T148
theorem uu70 : ∃ r0, T 70 = some (PG.F70 r0) := ⟨_, T70⟩
theorem uu149 : ∃ r0, T 149 = some (PG.F149 r0) := ⟨_, T149⟩
theorem tt3 : T 3 = some PG.F3 := T3
theorem tt37 : T 37 = some PG.F37 := T37
theorem tt38 : T 38 = some PG.F38 := T38
theorem uu39 : ∃ r0, T 39 = some (PG.F39 r0) := ⟨_, T39⟩
theorem tt42 : T 42 = some PG.F42 := T42
theorem tt91 : T 91 = some PG.F91 := T91
theorem tt92 : T 92 = some PG.F92 := T92
theorem tt93 : T 93 = some PG.F93 := T93
theorem tt95 : T 95 = some PG.F95 := T95
theorem tt96 : T 96 = some PG.F96 := T96
theorem uu105 : ∃ r0, T 105 = some (PG.F105 r0) := ⟨_, T105⟩
theorem uu151 : ∃ r0, T 151 = some (PG.F151 r0) := ⟨_, T151⟩
theorem uu111 : ∃ r0 r1 r2, T 111 = some (PG.F111 r0 r1 r2) := ⟨_, _, _, T111⟩
theorem uu112 : ∃ r0 r1, T 112 = some (PG.F112 r0 r1) := ⟨_, _, T112⟩
theorem tt114 : T 114 = some PG.F114 := T114
theorem tt152 : T 152 = some PG.F152 := T152
theorem tD : T 5 = some fDraw := T5
theorem tDs : T 4 = some fDraws := T4
theorem tP : T 63 = some fProduct := T63
theorem tN : T 64 = some (fNumbers 5 63) := T64
theorem tI : T 76 = some fImage := T76
theorem tC : T 247 = some (fCurve 5 3 6 9) := T247
/-! ### the numbers of the parts -/
theorem par_mul (a g m : Int) (h : (a + g) % 2 = 0) : (a * m * m + g * m) % 2 = 0 ∧ (a * m * m - g * m) % 2 = 0 := by
  have e1 : (m * (m - 1)) % 2 = 0 := by
    rcases Int.emod_two_eq m with z | z
    · rw [Int.mul_emod, z]; simp
    · have : (m - 1) % 2 = 0 := by omega
      rw [Int.mul_emod, this]; simp
  obtain ⟨c, hc⟩ := Int.dvd_of_emod_eq_zero h
  obtain ⟨d, hd⟩ := Int.dvd_of_emod_eq_zero e1
  have eg : g = 2 * c - a := by omega
  have k1 : a * m * m + g * m = 2 * (a * d + c * m) := by
    rw [eg]
    have : a * (m * (m - 1)) = a * (2 * d) := by rw [hd]
    grind
  have k2 : a * m * m - g * m = 2 * (a * d - c * m + a * m) := by
    rw [eg]
    have : a * (m * (m - 1)) = a * (2 * d) := by rw [hd]
    grind
  rw [k1, k2]
  omega
structure Nums (aN gN aF gF aW gW al : Int) : Prop where
  a : aN + aF = aW
  g : gN + gF = gW + 2 * al
  pN : (aN + gN) % 2 = 0
  pF : (aF + gF) % 2 = 0
  pW : (aW + gW) % 2 = 0
section
variable {aN gN aF gF aW gW al : Int} (h : Nums aN gN aF gF aW gW al)
include h
theorem Nums.tot : (aN + gN + 2) / 2 + (aF + gF + 2) / 2 = (aW + gW + 2) / 2 + al + 1 := by
  obtain ⟨a, b, c, d, e⟩ := h
  omega
theorem Nums.inn : (aN - gN + 2) / 2 + (aF - gF + 2) / 2 = (aW - gW + 2) / 2 - al + 1 := by
  obtain ⟨a, b, c, d, e⟩ := h
  omega
theorem Nums.mul (m : Int) : (aN * m * m + gN * m) / 2 + 1 + ((aF * m * m + gF * m) / 2 + 1) = (aW * m * m + gW * m) / 2 + 1 + m * al + 1 ∧
    (aN * m * m - gN * m) / 2 + 1 + ((aF * m * m - gF * m) / 2 + 1) = (aW * m * m - gW * m) / 2 + 1 - m * al + 1 := by
  obtain ⟨a, b, c, d, e⟩ := h
  have p1 := par_mul aN gN m c
  have p2 := par_mul aF gF m d
  have p3 := par_mul aW gW m e
  have e1 : aW * m * m = aN * m * m + aF * m * m := by rw [← a]; grind
  have e2 : gN * m + gF * m = gW * m + 2 * (m * al) := by
    have : (gN + gF) * m = (gW + 2 * al) * m := by rw [b]
    grind
  omega
end
/-- the parts of a row -/
theorem parts (C : List Pt) {o w : Nat} (h1 : o + 2 ≤ w) (h2 : w < C.length) : cyc fA ((C.take (w + 1)).drop o) + cyc fA (C.take (o + 1) ++ C.drop w) = cyc fA C ∧
    cyc fG ((C.take (w + 1)).drop o) + cyc fG (C.take (o + 1) ++ C.drop w) = cyc fG C + 2 * fG (at' C o) (at' C w) := by
  have ho : o < C.length := by omega
  have g1 : ∀ {i : Nat} (hi : i < C.length), C[i] = at' C i := by
    intro i hi
    unfold NG.at'
    rw [List.getD_eq_getElem?_getD, List.getElem?_eq_getElem hi]
    rfl
  have eN : (C.take (w + 1)).drop o = at' C o :: (C.take w).drop (o + 1) ++ [at' C w] := by
    rw [List.take_succ_eq_append_getElem h2, List.drop_append_of_le_length (by simp; omega)]
    congr 1
    · rw [List.drop_eq_getElem_cons (by simp; omega), List.getElem_take, g1 ho]
    · rw [g1 h2]
  have eF : C.take (o + 1) ++ C.drop w = (C.take o ++ [at' C o]) ++ (at' C w :: C.drop (w + 1)) := by
    rw [List.take_succ_eq_append_getElem ho, List.drop_eq_getElem_cons h2, g1 ho, g1 h2]
  have eW : C = C.take o ++ at' C o :: ((C.take w).drop (o + 1) ++ at' C w :: C.drop (w + 1)) := by
    conv => lhs; rw [← List.take_append_drop w C]
    have a : C.take w = C.take o ++ at' C o :: (C.take w).drop (o + 1) := by
      conv => lhs; rw [← List.take_append_drop o (C.take w)]
      rw [List.take_take, Nat.min_eq_left (by omega), List.drop_eq_getElem_cons (by simp; omega), List.getElem_take, g1 ho]
    have b : C.drop w = at' C w :: C.drop (w + 1) := by rw [List.drop_eq_getElem_cons h2, g1 h2]
    conv => lhs; rw [a, b]
    simp
  have kA := NG.cyc_cut fA (C.take o) ((C.take w).drop (o + 1)) (C.drop (w + 1)) (at' C o) (at' C w)
  have kG := NG.cyc_cut fG (C.take o) ((C.take w).drop (o + 1)) (C.drop (w + 1)) (at' C o) (at' C w)
  rw [← eN, ← eF, ← eW] at kA kG
  rw [NG.fA_anti] at kA
  rw [NG.fG_sym] at kG
  constructor
  · omega
  · omega
theorem p106 : opD .pow [.int 10, .int 6] = some (.int 1000000) := by
  rw [opD_powS _ _ (by decide) (by decide) (by decide)]
  rfl
def for1 : IS := hdS b248
def B1 : ISs := bodyOf for1
theorem clsI (i : Int) (M : Mem) : clsOf (.d (.int i)) M = none := rfl
theorem B1_eq : B1 = .cons (hdS B1) (.cons (hdS (tlS B1)) (.cons (hdS (tlS (tlS B1))) (.cons (hdS (tlS (tlS (tlS B1)))) (.cons (hdS (tlS (tlS (tlS (tlS B1))))) (.cons (hdS (tlS (tlS (tlS (tlS (tlS B1)))))) (.cons (hdS (tlS (tlS (tlS (tlS (tlS (tlS B1))))))) (.cons (hdS (tlS (tlS (tlS (tlS (tlS (tlS (tlS B1)))))))) (.cons (hdS (tlS (tlS (tlS (tlS (tlS (tlS (tlS (tlS B1))))))))) (.cons (hdS (tlS (tlS (tlS (tlS (tlS (tlS (tlS (tlS (tlS B1)))))))))) (.cons (hdS (tlS (tlS (tlS (tlS (tlS (tlS (tlS (tlS (tlS (tlS B1))))))))))) (.cons (hdS (tlS (tlS (tlS (tlS (tlS (tlS (tlS (tlS (tlS (tlS (tlS B1)))))))))))) (.cons (hdS (tlS (tlS (tlS (tlS (tlS (tlS (tlS (tlS (tlS (tlS (tlS (tlS B1))))))))))))) (.cons (hdS (tlS (tlS (tlS (tlS (tlS (tlS (tlS (tlS (tlS (tlS (tlS (tlS (tlS B1)))))))))))))) .nil))))))))))))) := rfl

def forM : ISs := bodyOf (hdS (tlS (tlS (tlS (tlS (tlS (tlS (tlS (tlS (tlS (tlS (tlS (tlS (tlS B1))))))))))))))
/-- one factor -/
theorem turnM (v0 v1 v2 v3 v4 v5 v6 v7 v13 v14 v15 : Option Val) (KW KN KF : List Pt) (SW SN SF : D) (al m : Int) (M : Mem) (hm : 1 ≤ m) (sm : Sm 20 m) (sal : Sm 500 al)
    (hW : ∀ p ∈ KW, Sp 200 p) (hN : ∀ p ∈ KN, Sp 200 p) (hF : ∀ p ∈ KF, Sp 200 p) (lW : 1 ≤ KW.length ∧ KW.length ≤ 900) (lN : 1 ≤ KN.length ∧ KN.length ≤ 900) (lF : 1 ≤ KF.length ∧ KF.length ≤ 900)
    (nums : Nums (cyc fA KN) (cyc fG KN) (cyc fA KF) (cyc fG KF) (cyc fA KW) (cyc fG KW) al) :
    ∃ v13', denSs (callD T 20) forM [v0, v1, v2, v3, v4, v5, v6, v7, some (.d (poly 24 KW true SW)), some (.d (poly 24 KN true SN)), some (.d (poly 24 KF true SF)), iv al, iv m, v13, v14, v15] M = some (.nx [v0, v1, v2, v3, v4, v5, v6, v7, some (.d (poly 24 KW true SW)), some (.d (poly 24 KN true SN)), some (.d (poly 24 KF true SF)), iv al, iv m, v13', v14, v15] M) := by
  obtain ⟨_, _, tt86⟩ := uu86
  obtain ⟨_, tt70⟩ := uu70
  obtain ⟨_, tt149⟩ := uu149
  obtain ⟨_, tt39⟩ := uu39
  obtain ⟨_, tt105⟩ := uu105
  obtain ⟨_, tt151⟩ := uu151
  obtain ⟨_, _, _, tt111⟩ := uu111
  obtain ⟨_, _, tt112⟩ := uu112
  have sA : ∀ P : List Pt, (∀ p ∈ P, Sp 200 p) → 1 ≤ P.length ∧ P.length ≤ 900 → Sm 3000 (cyc fA P) := fun P hP hl => (cyc_sm hl.1 hl.2 fun p a q b => sm_fA (hP p a) (hP q b)).le (by decide)
  have sG : ∀ P : List Pt, (∀ p ∈ P, Sp 200 p) → 1 ≤ P.length ∧ P.length ≤ 900 → Sm 3000 (cyc fG P) := fun P hP hl => (cyc_sm hl.1 hl.2 fun p a q b => sm_fG (hP p a) (hP q b)).le (by decide)
  have e1 := r152 (.inr rfl) tt152 tt151 tt149 tt70 tt148 tt92 17 KW true SW m M (by decide : 200 ≤ 1000) hW lW.1 hm (sm.le (by decide)) (sA _ hW lW) (sG _ hW lW)
  have e2 := r152 (.inr rfl) tt152 tt151 tt149 tt70 tt148 tt92 17 KN true SN m M (by decide : 200 ≤ 1000) hN lN.1 hm (sm.le (by decide)) (sA _ hN lN) (sG _ hN lN)
  have e3 := r152 (.inr rfl) tt152 tt151 tt149 tt70 tt148 tt92 17 KF true SF m M (by decide : 200 ≤ 1000) hF lF.1 hm (sm.le (by decide)) (sA _ hF lF) (sG _ hF lF)
  change callD T 20 _ _ _ = _ at e1 e2 e3
  obtain ⟨n1, n2⟩ := nums.mul m
  have ml := opD_mulB sm sal (by decide) (by decide)
  have z0 := szlt (n := 0) (by decide)
  have z1 := szlt (n := 1) (by decide)
  have z2 := szlt (n := 2) (by decide)
  have i2 : ∀ (a b c : D), L2.atI [a, b, c] 2 = some c := fun a b c => L2.atI_nat (j := 2) rfl
  generalize (cyc fA KN * m * m + cyc fG KN * m) / 2 + 1 = tN at *
  generalize (cyc fA KF * m * m + cyc fG KF * m) / 2 + 1 = tF at *
  generalize (cyc fA KW * m * m + cyc fG KW * m) / 2 + 1 = tW at *
  generalize (cyc fA KN * m * m - cyc fG KN * m) / 2 + 1 = iN at *
  generalize (cyc fA KF * m * m - cyc fG KF * m) / 2 + 1 = iF at *
  generalize (cyc fA KW * m * m - cyc fG KW * m) / 2 + 1 = iW at *
  generalize poly 24 KW true SW = pW at *
  generalize poly 24 KN true SN = pN at *
  generalize poly 24 KF true SF = pF at *
  refine ⟨some (.d (.lst [.tup [.int tN, .int iN], .tup [.int tF, .int iF], .tup [.int tW, .int iW]])), ?_⟩
  simp [forM, B1, for1, b248, hdS, tlS, bodyOf, runLc, lcL, wipeE, e1, e2, e3, z0, z1, z2, atI_0, atI_1, i2, ml, n1, n2, eqWho, plainV, clsI, isTupV]
theorem outer (xs : List Int) (hx : xs.length < 1000000) (k : Nat) (v1 v2 v3 v4 v5 v6 v7 v8 v9 v10 v11 v12 v13 v14 v15 : Option Val) (M : Mem) :
    ∃ env1 env2 M2, (Tg.nm 1).bind (.int k) [some (.d (.frl (xs.map D.int))), v1, v2, v3, v4, v5, v6, v7, v8, v9, v10, v11, v12, v13, v14, v15] = some env1 ∧ denSs (callD T 20) B1 env1 M = some (.nx env2 M2) ∧
      ∃ v1 v2 v3 v4 v5 v6 v7 v8 v9 v10 v11 v12 v13 v14 v15, env2 = [some (.d (.frl (xs.map D.int))), v1, v2, v3, v4, v5, v6, v7, v8, v9, v10, v11, v12, v13, v14, v15] := by
  obtain ⟨_, _, tt86⟩ := uu86
  obtain ⟨_, tt70⟩ := uu70
  obtain ⟨_, tt149⟩ := uu149
  obtain ⟨_, tt39⟩ := uu39
  obtain ⟨_, tt105⟩ := uu105
  obtain ⟨_, tt151⟩ := uu151
  obtain ⟨_, _, _, tt111⟩ := uu111
  obtain ⟨_, _, tt112⟩ := uu112
  obtain ⟨m0, k0, e0⟩ := draws_ok tDs 19 xs k M hx
  have hn : M.length < (M ++ [Cell.gone]).length := by simp
  obtain ⟨S, hS⟩ : ∃ S, S = Val.d (.frl (xs.map D.int)) := ⟨_, rfl⟩
  obtain ⟨n, hN⟩ : ∃ n, n = M.length := ⟨_, rfl⟩
  obtain ⟨M', hM⟩ : ∃ M', M' = M ++ [Cell.gone] := ⟨_, rfl⟩
  rw [← hN, ← hM] at hn k0
  rw [← hN, ← hS] at e0
  rw [← hS]
  obtain ⟨X, m1, sX, uX, k1, e1⟩ := numbers_ok tD tP tN 18 hn k0
  obtain ⟨P, s, m2, lP1, lP2, gP, sP, k2, e2⟩ := curve_ok tD 3 6 9 1000000 1000000000 tC p106 pow9 ⟨by decide, by decide⟩ ⟨by decide, by decide⟩ ⟨by decide, by decide⟩ 18 hn k1
  obtain ⟨C, hC⟩ : ∃ C, C = P.map (img X) := ⟨_, rfl⟩
  have lC : C.length = P.length := by rw [hC, List.length_map]
  have sC : ∀ p ∈ C, Sp 200 p := by
    intro p hp
    rw [hC] at hp
    obtain ⟨q, hq, rfl⟩ := List.mem_map.mp hp
    exact (sp_img sX (sP q hq)).le (by decide)
  have cC : Cvx (X.det * 1) C := by
    rw [hC]
    exact Cvx.map (img X) (fun a b c => by unfold orient img Six.det; grind) uX gP.cvx
  rw [Int.mul_one] at cC
  have lc : runLc (callD T 20) (.nm 14) [14] .nil (.call 76 (.cons (.var 3) (.cons (.var 14) .nil))) [some S, iv k, some (.rf n), some (.d X.tup), v4, v5, v6, v7, v8, v9, v10, v11, v12, v13, v14, v15] (P.map ptD) m2 = some (.ok (C.map ptD) m2) := by
    rw [map_rn, hC, map_rn, List.length_map]
    refine runLc_rn P.length _ _ m2 (fun i hi => ⟨_, by simp only [tgN]; rfl, ?_⟩) (by omega)
    have e := image_ok tI 19 X (at' P i) m2 (k := 100) (by decide) sX ((sP _ (at_mem hi)).le (by decide))
    have e' : img X (at' P i) = at' (P.map (img X)) i := by
      unfold NG.at'
      rw [List.getD_eq_getElem?_getD, List.getD_eq_getElem?_getD, List.getElem?_map, List.getElem?_eq_getElem hi]
      rfl
    rw [e'] at e
    simp [wipeE, e]
  obtain ⟨o0, m3, p3, q3, k3, e3⟩ := draw_ok tD 19 hn k2 ((C.length : Int) - 2) (by omega) (divOk_of (by omega) (k := 20) (by unfold Sm; omega) (by decide))
  obtain ⟨o, rfl⟩ : ∃ o : Nat, o0 = o := ⟨o0.toNat, by omega⟩
  obtain ⟨d, hd⟩ : ∃ d : Int, d = if o = 0 then 1 else 0 := ⟨_, rfl⟩
  obtain ⟨w0, m4, p4, q4, k4, e4⟩ := draw_ok tD 19 hn k3 ((C.length : Int) - o - 2 - d) (by rw [hd]; split <;> omega) (divOk_of (by rw [hd]; split <;> omega) (k := 20) (by unfold Sm; rw [hd]; split <;> omega) (by decide))
  obtain ⟨w, hw⟩ : ∃ w : Nat, (w : Int) = o + 2 + w0 := ⟨(o + 2 + w0).toNat, by omega⟩
  have ow : o + 2 ≤ w := by omega
  have wC : w < C.length := by rw [hd] at q4; split at q4 <;> omega
  have far : 3 ≤ (o + 1) + (C.length - w) := by rw [hd] at q4; split at q4 <;> omega
  obtain ⟨NL, hNL⟩ : ∃ NL, NL = (C.take (w + 1)).drop o := ⟨_, rfl⟩
  obtain ⟨FL, hFL⟩ : ∃ FL, FL = C.take (o + 1) ++ C.drop w := ⟨_, rfl⟩
  have lN : NL.length = w + 1 - o := by rw [hNL]; simp; omega
  have lF : FL.length = (o + 1) + (C.length - w) := by rw [hFL]; simp; omega
  have subN : NL.Sublist C := by rw [hNL]; exact (List.drop_sublist _ _).trans (List.take_sublist _ _)
  have subF : FL.Sublist C := by
    rw [hFL]
    conv => rhs; rw [← List.take_append_drop w C]
    refine List.Sublist.append ?_ (List.Sublist.refl _)
    have : C.take (o + 1) = (C.take w).take (o + 1) := by rw [List.take_take, Nat.min_eq_left (by omega)]
    rw [this]
    exact List.take_sublist _ _
  have sN : ∀ p ∈ NL, Sp 200 p := fun p hp => sC p (subN.subset hp)
  have sF : ∀ p ∈ FL, Sp 200 p := fun p hp => sC p (subF.subset hp)
  obtain ⟨jW, hjW, e5⟩ := mkC tt105 tt91 tt112 tt111 tt38 tt84 tt85 tt86 tt114 15 C m4 (by decide : 200 ≤ 200000) sC (by omega) (by omega) uX cC
  obtain ⟨jN, hjN, e6⟩ := mkC tt105 tt91 tt112 tt111 tt38 tt84 tt85 tt86 tt114 15 NL m4 (by decide : 200 ≤ 200000) sN (by omega) (by omega) uX (cC.sub subN)
  obtain ⟨jF, hjF, e7⟩ := mkC tt105 tt91 tt112 tt111 tt38 tt84 tt85 tt86 tt114 15 FL m4 (by decide : 200 ≤ 200000) sF (by omega) (by omega) uX (cC.sub subF)
  have pts := parts C ow wC
  rw [← hNL, ← hFL] at pts
  obtain ⟨al, hal⟩ : ∃ al : Int, al = fG (at' C o) (at' C w) := ⟨_, rfl⟩
  have aW := kept_A uX cC (by omega) hjW.lt
  have aN := kept_A uX (cC.sub subN) (by omega) hjN.lt
  have aF := kept_A uX (cC.sub subF) (by omega) hjF.lt
  have gW := kept_G C jW
  have gN := kept_G NL jN
  have gF := kept_G FL jF
  have lKW := kept_len C hjW.lt
  have lKN := kept_len NL hjN.lt
  have lKF := kept_len FL hjF.lt
  have sKW : ∀ p ∈ keptOf C jW, Sp 200 p := fun p hp => sC p (kept_mem hp)
  have sKN : ∀ p ∈ keptOf NL jN, Sp 200 p := fun p hp => sN p (kept_mem hp)
  have sKF : ∀ p ∈ keptOf FL jF, Sp 200 p := fun p hp => sF p (kept_mem hp)
  have ne : ∀ K : List Pt, 1 ≤ K.length → K ≠ [] := fun K h z => by rw [z] at h; simp at h
  have parW := NG.par (ne _ (show 1 ≤ (keptOf C jW).length by omega))
  have parN := NG.par (ne _ (show 1 ≤ (keptOf NL jN).length by omega))
  have parF := NG.par (ne _ (show 1 ≤ (keptOf FL jF).length by omega))
  obtain ⟨KW, hKW⟩ : ∃ KW, KW = keptOf C jW := ⟨_, rfl⟩
  obtain ⟨KN, hKN⟩ : ∃ KN, KN = keptOf NL jN := ⟨_, rfl⟩
  obtain ⟨KF, hKF⟩ : ∃ KF, KF = keptOf FL jF := ⟨_, rfl⟩
  obtain ⟨SW, hSW⟩ : ∃ SW, SW = sidesOf C jW := ⟨_, rfl⟩
  obtain ⟨SN, hSN⟩ : ∃ SN, SN = sidesOf NL jN := ⟨_, rfl⟩
  obtain ⟨SF, hSF⟩ : ∃ SF, SF = sidesOf FL jF := ⟨_, rfl⟩
  rw [← hKW] at e5 aW gW lKW sKW parW
  rw [← hKN] at e6 aN gN lKN sKN parN
  rw [← hKF] at e7 aF gF lKF sKF parF
  rw [← hSW] at e5
  rw [← hSN] at e6
  rw [← hSF] at e7
  have nums : Nums (cyc fA KN) (cyc fG KN) (cyc fA KF) (cyc fG KF) (cyc fA KW) (cyc fG KW) al := by
    refine ⟨?_, ?_, parN, parF, parW⟩
    · rw [aN, aF, aW, ← pts.1, Int.mul_add]
    · rw [gN, gF, gW, hal]; exact pts.2
  have e8 := r42 tt42 tt39 tt37 tt38 tt3 16 ((at' C w).1 - (at' C o).1, (at' C w).2 - (at' C o).2) m4
  have al8 : (Int.gcd ((at' C w).1 - (at' C o).1) ((at' C w).2 - (at' C o).2) : Int) = al := by rw [hal]; rfl
  simp only [al8] at e8
  have e9W := r93 (.inr rfl) tt93 tt125 18 KW true SW m4 (by decide : 200 ≤ 200000) sKW (by omega) (by omega)
  have e9N := r93 (.inr rfl) tt93 tt125 18 KN true SN m4 (by decide : 200 ≤ 200000) sKN (by omega) (by omega)
  have e9F := r93 (.inr rfl) tt93 tt125 18 KF true SF m4 (by decide : 200 ≤ 200000) sKF (by omega) (by omega)
  have eaW := r96 (.inr rfl) tt96 tt148 18 KW true SW m4 (by decide : 200 ≤ 200000) sKW (by omega)
  have eaN := r96 (.inr rfl) tt96 tt148 18 KN true SN m4 (by decide : 200 ≤ 200000) sKN (by omega)
  have eaF := r96 (.inr rfl) tt96 tt148 18 KF true SF m4 (by decide : 200 ≤ 200000) sKF (by omega)
  have ebW := r95 (.inr rfl) tt95 tt148 18 KW true SW m4 (by decide : 200 ≤ 200000) sKW (by omega)
  have ebN := r95 (.inr rfl) tt95 tt148 18 KN true SN m4 (by decide : 200 ≤ 200000) sKN (by omega)
  have ebF := r95 (.inr rfl) tt95 tt148 18 KF true SF m4 (by decide : 200 ≤ 200000) sKF (by omega)
  have n1 := nums.a
  have n2 := nums.tot
  have n3 := nums.inn
  obtain ⟨f0, m5, p5, q5, k5, ef⟩ := draw_ok tD 19 hn k4 100000 (by decide) (by decide)
  have sal : Sm 500 al := by
    rw [hal]
    exact (sm_fG ((sC _ (at_mem (by omega : o < C.length)))) (sC _ (at_mem wC))).le (by decide)
  have tm := fun (m : Int) (h1 : 1 ≤ m) (h2 : m ≤ 200000) (v13 : Option Val) => turnM (some S) (iv k) (some (.rf n)) (some (.d X.tup)) (some (.d (.lst (C.map ptD)))) (iv C.length) (iv (o : Nat)) (iv (w : Nat)) v13 v14 v15 KW KN KF SW SN SF al m m5 h1 (by unfold Sm; omega) sal sKW sKN sKF ⟨by omega, by omega⟩ ⟨by omega, by omega⟩ ⟨by omega, by omega⟩ nums
  obtain ⟨x1, t1⟩ := tm 1 (by decide) (by decide) v13
  obtain ⟨x2, t2⟩ := tm 2 (by decide) (by decide) x1
  obtain ⟨x3, t3⟩ := tm (1 + f0) (by omega) (by omega) x2
  have lp : forL (.nm 12) (denSs (callD T 20) forM) [.int 1, .int 2, .int (1 + f0)] [some S, iv k, some (.rf n), some (.d X.tup), some (.d (.lst (C.map ptD))), iv C.length, iv (o : Nat), iv (w : Nat), some (.d (poly 24 KW true SW)), some (.d (poly 24 KN true SN)), some (.d (poly 24 KF true SF)), iv al, v12, v13, v14, v15] m5 = some (.nx [some S, iv k, some (.rf n), some (.d X.tup), some (.d (.lst (C.map ptD))), iv C.length, iv (o : Nat), iv (w : Nat), some (.d (poly 24 KW true SW)), some (.d (poly 24 KN true SN)), some (.d (poly 24 KF true SF)), iv al, iv (1 + f0), x3, v14, v15] m5) := by
    rw [forL_cons (env1 := [some S, iv k, some (.rf n), some (.d X.tup), some (.d (.lst (C.map ptD))), iv C.length, iv (o : Nat), iv (w : Nat), some (.d (poly 24 KW true SW)), some (.d (poly 24 KN true SN)), some (.d (poly 24 KF true SF)), iv al, iv 1, v13, v14, v15]) (by simp only [tgN]; rfl), t1, goOn_nx,
      forL_cons (env1 := [some S, iv k, some (.rf n), some (.d X.tup), some (.d (.lst (C.map ptD))), iv C.length, iv (o : Nat), iv (w : Nat), some (.d (poly 24 KW true SW)), some (.d (poly 24 KN true SN)), some (.d (poly 24 KF true SF)), iv al, iv 2, x1, v14, v15]) (by simp only [tgN]; rfl), t2, goOn_nx,
      forL_cons (env1 := [some S, iv k, some (.rf n), some (.d X.tup), some (.d (.lst (C.map ptD))), iv C.length, iv (o : Nat), iv (w : Nat), some (.d (poly 24 KW true SW)), some (.d (poly 24 KN true SN)), some (.d (poly 24 KF true SF)), iv al, iv (1 + f0), x2, v14, v15]) (by simp only [tgN]; rfl), t3, goOn_nx, forL_nil]
  -- slices
  have lCm : (C.map ptD).length = C.length := List.length_map _
  have c1 : opD (.slice true true) [.lst (C.map ptD), .int (o : Int), .int ((w : Int) + 1)] = some (.lst (NL.map ptD)) := by
    have : opD (.slice true true) [.lst (C.map ptD), .int (o : Int), .int ((w : Int) + 1)] = some (.lst (cutD (C.map ptD) (some (o : Int)) (some ((w : Int) + 1)))) := rfl
    rw [this, show ((w : Int) + 1) = ((w + 1 : Nat) : Int) by omega, cut_fromto, hNL, List.map_drop, List.map_take]
  have c2 : opD (.slice false true) [.lst (C.map ptD), .int ((o : Int) + 1)] = some (.lst ((C.map ptD).take (o + 1))) := by
    rw [opD_slTl, show ((o : Int) + 1) = ((o + 1 : Nat) : Int) by omega, cut_to]
  have c3 : opD (.slice true false) [.lst (C.map ptD), .int (w : Int)] = some (.lst ((C.map ptD).drop w)) := by
    rw [opD_slFl, cut_from]
  have c4 : opD .add [.lst ((C.map ptD).take (o + 1)), .lst ((C.map ptD).drop w)] = some (.lst (FL.map ptD)) := by
    rw [opD_addL _ _ (by simp; omega), hFL, List.map_append, List.map_take, List.map_drop]
  have i1 : L2.atI (C.map ptD) (w : Int) = some (ptD (at' C w)) := by rw [map_rn]; exact atI_rn _ _ wC
  have i2 : L2.atI (C.map ptD) (o : Int) = some (ptD (at' C o)) := by rw [map_rn]; exact atI_rn _ _ (by omega)
  rw [hd] at e4
  simp only [ptD] at e8
  change callD T 20 _ _ _ = _ at e0 e1 e2 e3 e4 e8 e9W e9N e9F eaW eaN eaF ebW ebN ebF ef
  refine ⟨_, [some S, iv k, some (.rf n), some (.d X.tup), some (.d (.lst (C.map ptD))), iv C.length, iv (o : Nat), iv (w : Nat), some (.d (poly 24 KW true SW)), some (.d (poly 24 KN true SN)), some (.d (poly 24 KF true SF)), iv al, iv (1 + f0), x3, v14, v15], m5, by simp only [tgN]; rfl, ?_, by subst hS; exact ⟨_, _, _, _, _, _, _, _, _, _, _, _, _, _, _, rfl⟩⟩
  have st0 : denS (callD T 20) (hdS B1) [some S, iv k, v2, v3, v4, v5, v6, v7, v8, v9, v10, v11, v12, v13, v14, v15] M = some (.nx [some S, iv k, some (.rf n), v3, v4, v5, v6, v7, v8, v9, v10, v11, v12, v13, v14, v15] m0) := by
    simp [B1, for1, b248, hdS, tlS, bodyOf, e0]
  have st1 : denS (callD T 20) (hdS (tlS B1)) [some S, iv k, some (.rf n), v3, v4, v5, v6, v7, v8, v9, v10, v11, v12, v13, v14, v15] m0 = some (.nx [some S, iv k, some (.rf n), some (.d X.tup), v4, v5, v6, v7, v8, v9, v10, v11, v12, v13, v14, v15] m1) := by
    simp [B1, for1, b248, hdS, tlS, bodyOf, e1]
  have st2 : denS (callD T 20) (hdS (tlS (tlS B1))) [some S, iv k, some (.rf n), some (.d X.tup), v4, v5, v6, v7, v8, v9, v10, v11, v12, v13, v14, v15] m1 = some (.nx [some S, iv k, some (.rf n), some (.d X.tup), some (.d (.lst (C.map ptD))), v5, v6, v7, v8, v9, v10, v11, v12, v13, v14, v15] m2) := by
    simp [B1, for1, b248, hdS, tlS, bodyOf, e2, lc]
  have st3 : denS (callD T 20) (hdS (tlS (tlS (tlS B1)))) [some S, iv k, some (.rf n), some (.d X.tup), some (.d (.lst (C.map ptD))), v5, v6, v7, v8, v9, v10, v11, v12, v13, v14, v15] m2 = some (.nx [some S, iv k, some (.rf n), some (.d X.tup), some (.d (.lst (C.map ptD))), iv C.length, v6, v7, v8, v9, v10, v11, v12, v13, v14, v15] m2) := by
    simp [B1, for1, b248, hdS, tlS, bodyOf, lCm, rn_len]
  have st4 : denS (callD T 20) (hdS (tlS (tlS (tlS (tlS B1))))) [some S, iv k, some (.rf n), some (.d X.tup), some (.d (.lst (C.map ptD))), iv C.length, v6, v7, v8, v9, v10, v11, v12, v13, v14, v15] m2 = some (.nx [some S, iv k, some (.rf n), some (.d X.tup), some (.d (.lst (C.map ptD))), iv C.length, iv (o : Nat), v7, v8, v9, v10, v11, v12, v13, v14, v15] m3) := by
    simp [B1, for1, b248, hdS, tlS, bodyOf, e3]
  have st5 : denS (callD T 20) (hdS (tlS (tlS (tlS (tlS (tlS B1)))))) [some S, iv k, some (.rf n), some (.d X.tup), some (.d (.lst (C.map ptD))), iv C.length, iv (o : Nat), v7, v8, v9, v10, v11, v12, v13, v14, v15] m3 = some (.nx [some S, iv k, some (.rf n), some (.d X.tup), some (.d (.lst (C.map ptD))), iv C.length, iv (o : Nat), iv (w : Nat), v8, v9, v10, v11, v12, v13, v14, v15] m4) := by
    simp [B1, for1, b248, hdS, tlS, bodyOf, e4, ← hw]
  have st6 : denS (callD T 20) (hdS (tlS (tlS (tlS (tlS (tlS (tlS B1))))))) [some S, iv k, some (.rf n), some (.d X.tup), some (.d (.lst (C.map ptD))), iv C.length, iv (o : Nat), iv (w : Nat), v8, v9, v10, v11, v12, v13, v14, v15] m4 = some (.nx [some S, iv k, some (.rf n), some (.d X.tup), some (.d (.lst (C.map ptD))), iv C.length, iv (o : Nat), iv (w : Nat), some (.d (poly 24 KW true SW)), v9, v10, v11, v12, v13, v14, v15] m4) := by
    simp [B1, for1, b248, hdS, tlS, bodyOf, e5]
  have st7 : denS (callD T 20) (hdS (tlS (tlS (tlS (tlS (tlS (tlS (tlS B1)))))))) [some S, iv k, some (.rf n), some (.d X.tup), some (.d (.lst (C.map ptD))), iv C.length, iv (o : Nat), iv (w : Nat), some (.d (poly 24 KW true SW)), v9, v10, v11, v12, v13, v14, v15] m4 = some (.nx [some S, iv k, some (.rf n), some (.d X.tup), some (.d (.lst (C.map ptD))), iv C.length, iv (o : Nat), iv (w : Nat), some (.d (poly 24 KW true SW)), some (.d (poly 24 KN true SN)), v10, v11, v12, v13, v14, v15] m4) := by
    simp [B1, for1, b248, hdS, tlS, bodyOf, c1, e6]
  have st8 : denS (callD T 20) (hdS (tlS (tlS (tlS (tlS (tlS (tlS (tlS (tlS B1))))))))) [some S, iv k, some (.rf n), some (.d X.tup), some (.d (.lst (C.map ptD))), iv C.length, iv (o : Nat), iv (w : Nat), some (.d (poly 24 KW true SW)), some (.d (poly 24 KN true SN)), v10, v11, v12, v13, v14, v15] m4 = some (.nx [some S, iv k, some (.rf n), some (.d X.tup), some (.d (.lst (C.map ptD))), iv C.length, iv (o : Nat), iv (w : Nat), some (.d (poly 24 KW true SW)), some (.d (poly 24 KN true SN)), some (.d (poly 24 KF true SF)), v11, v12, v13, v14, v15] m4) := by
    simp [B1, for1, b248, hdS, tlS, bodyOf, c2, c3, c4, e7]
  have st9 : denS (callD T 20) (hdS (tlS (tlS (tlS (tlS (tlS (tlS (tlS (tlS (tlS B1)))))))))) [some S, iv k, some (.rf n), some (.d X.tup), some (.d (.lst (C.map ptD))), iv C.length, iv (o : Nat), iv (w : Nat), some (.d (poly 24 KW true SW)), some (.d (poly 24 KN true SN)), some (.d (poly 24 KF true SF)), v11, v12, v13, v14, v15] m4 = some (.nx [some S, iv k, some (.rf n), some (.d X.tup), some (.d (.lst (C.map ptD))), iv C.length, iv (o : Nat), iv (w : Nat), some (.d (poly 24 KW true SW)), some (.d (poly 24 KN true SN)), some (.d (poly 24 KF true SF)), iv al, v12, v13, v14, v15] m4) := by
    simp [B1, for1, b248, hdS, tlS, bodyOf, i1, i2, ptD, atI_0, atI_1, e8]
  have st10 : denS (callD T 20) (hdS (tlS (tlS (tlS (tlS (tlS (tlS (tlS (tlS (tlS (tlS B1))))))))))) [some S, iv k, some (.rf n), some (.d X.tup), some (.d (.lst (C.map ptD))), iv C.length, iv (o : Nat), iv (w : Nat), some (.d (poly 24 KW true SW)), some (.d (poly 24 KN true SN)), some (.d (poly 24 KF true SF)), iv al, v12, v13, v14, v15] m4 = some (.nx [some S, iv k, some (.rf n), some (.d X.tup), some (.d (.lst (C.map ptD))), iv C.length, iv (o : Nat), iv (w : Nat), some (.d (poly 24 KW true SW)), some (.d (poly 24 KN true SN)), some (.d (poly 24 KF true SF)), iv al, v12, v13, v14, v15] m4) := by
    simp [B1, for1, b248, hdS, tlS, bodyOf, e9N, e9F, e9W, n1, eqWho, plainV, clsI, isTupV]
  have st11 : denS (callD T 20) (hdS (tlS (tlS (tlS (tlS (tlS (tlS (tlS (tlS (tlS (tlS (tlS B1)))))))))))) [some S, iv k, some (.rf n), some (.d X.tup), some (.d (.lst (C.map ptD))), iv C.length, iv (o : Nat), iv (w : Nat), some (.d (poly 24 KW true SW)), some (.d (poly 24 KN true SN)), some (.d (poly 24 KF true SF)), iv al, v12, v13, v14, v15] m4 = some (.nx [some S, iv k, some (.rf n), some (.d X.tup), some (.d (.lst (C.map ptD))), iv C.length, iv (o : Nat), iv (w : Nat), some (.d (poly 24 KW true SW)), some (.d (poly 24 KN true SN)), some (.d (poly 24 KF true SF)), iv al, v12, v13, v14, v15] m4) := by
    simp [B1, for1, b248, hdS, tlS, bodyOf, eaN, eaF, eaW, n2, eqWho, plainV, clsI, isTupV]
  have st12 : denS (callD T 20) (hdS (tlS (tlS (tlS (tlS (tlS (tlS (tlS (tlS (tlS (tlS (tlS (tlS B1))))))))))))) [some S, iv k, some (.rf n), some (.d X.tup), some (.d (.lst (C.map ptD))), iv C.length, iv (o : Nat), iv (w : Nat), some (.d (poly 24 KW true SW)), some (.d (poly 24 KN true SN)), some (.d (poly 24 KF true SF)), iv al, v12, v13, v14, v15] m4 = some (.nx [some S, iv k, some (.rf n), some (.d X.tup), some (.d (.lst (C.map ptD))), iv C.length, iv (o : Nat), iv (w : Nat), some (.d (poly 24 KW true SW)), some (.d (poly 24 KN true SN)), some (.d (poly 24 KF true SF)), iv al, v12, v13, v14, v15] m4) := by
    simp [B1, for1, b248, hdS, tlS, bodyOf, ebN, ebF, ebW, n3, eqWho, plainV, clsI, isTupV]
  have st13 : denS (callD T 20) (hdS (tlS (tlS (tlS (tlS (tlS (tlS (tlS (tlS (tlS (tlS (tlS (tlS (tlS B1)))))))))))))) [some S, iv k, some (.rf n), some (.d X.tup), some (.d (.lst (C.map ptD))), iv C.length, iv (o : Nat), iv (w : Nat), some (.d (poly 24 KW true SW)), some (.d (poly 24 KN true SN)), some (.d (poly 24 KF true SF)), iv al, v12, v13, v14, v15] m4 = some (.nx [some S, iv k, some (.rf n), some (.d X.tup), some (.d (.lst (C.map ptD))), iv C.length, iv (o : Nat), iv (w : Nat), some (.d (poly 24 KW true SW)), some (.d (poly 24 KN true SN)), some (.d (poly 24 KF true SF)), iv al, iv (1 + f0), x3, v14, v15] m5) := by
    show denS (callD T 20) (.for (.nm 12) (.seq (.op .lst (.cons (.cst (.int 1)) (.cons (.cst (.int 2)) (.cons (.op .add (.cons (.cst (.int 1)) (.cons (.call 5 (.cons (.var 2) (.cons (.op .pow (.cons (.cst (.int 10)) (.cons (.cst (.int 5)) .nil))) .nil))) .nil))) .nil))))) forM) _ _ = _
    rw [eS_for]
    simp only [eI_seq, eE_op, eE_call, eEs_cons, eEs_nil, eE_cst, eE_var, bnd_ok, runOp2, pow5, Option.map_some, List.getElem?_cons_succ, List.getElem?_cons_zero, ef, opD_add, runOp3, opD_lst3, rS_l, bndS_ok]
    exact lp
  show denSs (callD T 20) B1 [some S, iv k, v2, v3, v4, v5, v6, v7, v8, v9, v10, v11, v12, v13, v14, v15] M = _
  rw [B1_eq, stp st0, stp st1, stp st2, stp st3, stp st4, stp st5, stp st6, stp st7, stp st8, stp st9, stp st10, stp st11, stp st12, stp st13]
  simp
end KK

/-! the law holds -/
namespace KK
open PySem PyI FS
theorem law_true (ns : List Int) (hl : ns.length ≤ 63) : endFn F248.keep 0 (denSs (callD T 20) F248.body (startE F248.ns [.d (.frl (ns.map D.int))]) []) = some (.ok (.d (.bl true)) []) := by
  obtain ⟨env', M', e2, v1, v2, v3, v4, v5, v6, v7, v8, v9, v10, v11, v12, v13, v14, v15, rfl⟩ := forL_inv (tg := .nm 1) (b := denSs (callD T 20) B1) (fun env M => ∃ v1 v2 v3 v4 v5 v6 v7 v8 v9 v10 v11 v12 v13 v14 v15, env = [some (.d (.frl (ns.map D.int))), v1, v2, v3, v4, v5, v6, v7, v8, v9, v10, v11, v12, v13, v14, v15])
    (xs := rngL 0 (if (ns.length : Int) > 1 then (ns.length : Int) else 1)) (env := [some (.d (.frl (ns.map D.int))), none, none, none, none, none, none, none, none, none, none, none, none, none, none, none]) (M := []) (by
      rintro x hx env M ⟨v1, v2, v3, v4, v5, v6, v7, v8, v9, v10, v11, v12, v13, v14, v15, rfl⟩
      obtain ⟨k, rfl, -⟩ := rngL_mem hx
      exact outer ns (by omega) k v1 v2 v3 v4 v5 v6 v7 v8 v9 v10 v11 v12 v13 v14 v15 M) ⟨_, _, _, _, _, _, _, _, _, _, _, _, _, _, _, rfl⟩
  have r5 := rR_1 (M := []) (if (ns.length : Int) > 1 then (ns.length : Int) else 1) (by split <;> omega) (by split <;> (try split) <;> omega)
  have s2 : denS (callD T 20) for1 [some (.d (.frl (ns.map D.int))), none, none, none, none, none, none, none, none, none, none, none, none, none, none, none] [] = some (.nx [some (.d (.frl (ns.map D.int))), v1, v2, v3, v4, v5, v6, v7, v8, v9, v10, v11, v12, v13, v14, v15] M') := by
    rw [show for1 = .for (.nm 1) (.range (.cons (.op .max2 (.cons (.cst (.int (1))) (.cons (.op .len (.cons (.var 0) .nil)) .nil))) .nil)) B1 from rfl, eS_for]
    have e : denI (callD T 20) (.range (.cons (.op .max2 (.cons (.cst (.int (1))) (.cons (.op .len (.cons (.var 0) .nil)) .nil))) .nil)) [some (.d (.frl (ns.map D.int))), none, none, none, none, none, none, none, none, none, none, none, none, none, none, none] [] = some (.ok (rngL 0 (if (ns.length : Int) > 1 then (ns.length : Int) else 1)) []) := by
      simp [r5]
    rw [e, bndS_ok]
    exact e2
  show endFn false 0 (denSs (callD T 20) (.cons for1 (tlS b248)) [some (.d (.frl (ns.map D.int))), none, none, none, none, none, none, none, none, none, none, none, none, none, none, none] []) = _
  rw [stp s2]
  simp [b248, tlS]
end KK

namespace KK
open PySem PySem.Spec PyProof.Rows L2 PyI
def fidL : List Nat := [9, 10, 11, 12]
def fnmT : Nat → Str := lk "" [(9, "known"), (10, "kept"), (11, "turns_left"), (12, "sides")]
def cfT : Nat → List Nat := lk [] [(22, [9]), (23, [10, 11, 12]), (24, [10, 11, 12])]
theorem ne_cls {K : PySem.W.Frag} {a b : Addr} (h1 : PySem.W.subIn K (.ref b) (.ref a) = some false) (h2 : PySem.W.subIn K (.ref a) (.ref a) = some true) : a ≠ b := by
  intro z; subst z; rw [h2] at h1; cases h1
theorem hInj : ∀ f ∈ fidL, ∀ g ∈ fidL, fnmT f = fnmT g → f = g := by decide +kernel
theorem hCf : ∀ c ∈ [22, 23, 24], ∀ f ∈ cfT c, fidL.contains f = true := by decide +kernel
set_option maxHeartbeats 0 in
theorem all_mk {l : PySem.W.OpenLaw} {w : World} {K : PySem.W.Frag} {h : Heap} {mg : Str → Option Value} {f84 f85 f86 f125 f148 f70 f149 f3 f37 f38 f39 f42 f91 f92 f93 f95 f96 f105 f151 f111 f112 f114 f152 f4 f5 f63 f64 f76 f247 f248 c22 c23 c24 p92_23 p92_24 p93_23 p93_24 p95_23 p95_24 p96_23 p96_24 fz : Addr} {od84 an84 od85 an85 od86 an86 od125 an125 od148 an148 od70 an70 od149 an149 od3 an3 od37 an37 od38 an38 od39 an39 od42 an42 od91 an91 od92 an92 od93 an93 od95 an95 od96 an96 od105 an105 od151 an151 od111 an111 od112 an112 od114 an114 od152 an152 od4 an4 od5 an5 od63 an63 od64 an64 od76 an76 od247 an247 od248 an248 : Option Addr} {sl84 sl85 sl86 sl125 sl148 sl70 sl149 sl3 sl37 sl38 sl39 sl42 sl91 sl92 sl93 sl95 sl96 sl105 sl151 sl111 sl112 sl114 sl152 sl4 sl5 sl63 sl64 sl76 sl247 sl248 : Array (Option Value)} {oc84 kV84 dc84 pm84 cd84 ct84 oc85 kV85 dc85 pm85 cd85 ct85 oc86 kV86 dc86 pm86 cd86 ct86 oc125 kV125 dc125 pm125 cd125 ct125 oc148 kV148 dc148 pm148 cd148 ct148 oc70 kV70 dc70 pm70 cd70 ct70 oc149 kV149 dc149 pm149 cd149 ct149 oc3 kV3 dc3 pm3 cd3 ct3 oc37 kV37 dc37 pm37 cd37 ct37 oc38 kV38 dc38 pm38 cd38 ct38 oc39 kV39 dc39 pm39 cd39 ct39 oc42 kV42 dc42 pm42 cd42 ct42 oc91 kV91 dc91 pm91 cd91 ct91 oc92 kV92 dc92 pm92 cd92 ct92 oc93 kV93 dc93 pm93 cd93 ct93 oc95 kV95 dc95 pm95 cd95 ct95 oc96 kV96 dc96 pm96 cd96 ct96 oc105 kV105 dc105 pm105 cd105 ct105 oc151 kV151 dc151 pm151 cd151 ct151 oc111 kV111 dc111 pm111 cd111 ct111 oc112 kV112 dc112 pm112 cd112 ct112 oc114 kV114 dc114 pm114 cd114 ct114 oc152 kV152 dc152 pm152 cd152 ct152 oc4 kV4 dc4 pm4 cd4 ct4 oc5 kV5 dc5 pm5 cd5 ct5 oc63 kV63 dc63 pm63 cd63 ct63 oc64 kV64 dc64 pm64 cd64 ct64 oc76 kV76 dc76 pm76 cd76 ct76 oc247 kV247 dc247 pm247 cd247 ct247 oc248 kV248 dc248 pm248 cd248 ct248 : Value} {ct_23_MAX_CORNERS ct_24_MAX_CORNERS gt_LEAST_CORNERS : Nat} {rs92_23 rs92_24 rs93_23 rs93_24 rs95_23 rs95_24 rs96_23 rs96_24 : List Value} (X : K.In h) (G : h.Ns mainGlobals mg) (hfa : mg "law" = some (.ref fz))
    (ca22 : PySem.W.nsIn K mainGlobals "Outline" = some (some (.ref c22)))
    (ca23 : PySem.W.nsIn K mainGlobals "Polygon" = some (some (.ref c23)))
    (ca24 : PySem.W.nsIn K mainGlobals "ConvexPolygon" = some (some (.ref c24)))
    (a84 : PySem.W.nsIn K mainGlobals "edge_steps" = some (some (.ref f84)))
    (a85 : PySem.W.nsIn K mainGlobals "corner_turns" = some (some (.ref f85)))
    (a86 : PySem.W.nsIn K mainGlobals "goes_round_once" = some (some (.ref f86)))
    (a125 : PySem.W.nsIn K mainGlobals "double_area_of" = some (some (.ref f125)))
    (a148 : PySem.W.nsIn K mainGlobals "area_and_border" = some (some (.ref f148)))
    (a70 : PySem.W.nsIn K mainGlobals "need_integer" = some (some (.ref f70)))
    (a149 : PySem.W.nsIn K mainGlobals "need_at_least" = some (some (.ref f149)))
    (a3 : PySem.W.nsIn K mainGlobals "common_divisor" = some (some (.ref f3)))
    (a37 : PySem.W.nsIn K mainGlobals "is_point" = some (some (.ref f37)))
    (a38 : PySem.W.nsIn K mainGlobals "first_wrong_point" = some (some (.ref f38)))
    (a39 : PySem.W.nsIn K mainGlobals "need_point" = some (some (.ref f39)))
    (a42 : PySem.W.nsIn K mainGlobals "content" = some (some (.ref f42)))
    (a151 : PySem.W.nsIn K mainGlobals "need_polygon" = some (some (.ref f151)))
    (a111 : PySem.W.nsIn K mainGlobals "need_corners" = some (some (.ref f111)))
    (a112 : PySem.W.nsIn K mainGlobals "known_of" = some (some (.ref f112)))
    (a114 : PySem.W.nsIn K mainGlobals "backwards" = some (some (.ref f114)))
    (a152 : PySem.W.nsIn K mainGlobals "multiple_counts" = some (some (.ref f152)))
    (a4 : PySem.W.nsIn K mainGlobals "_law_draws" = some (some (.ref f4)))
    (a5 : PySem.W.nsIn K mainGlobals "_law_draw" = some (some (.ref f5)))
    (a63 : PySem.W.nsIn K mainGlobals "_law_product" = some (some (.ref f63)))
    (a64 : PySem.W.nsIn K mainGlobals "_law_numbers" = some (some (.ref f64)))
    (a76 : PySem.W.nsIn K mainGlobals "_law_image" = some (some (.ref f76)))
    (a247 : PySem.W.nsIn K mainGlobals "_law_curve" = some (some (.ref f247)))
    (a248 : PySem.W.nsIn K mainGlobals "law" = some (some (.ref f248)))
    (C22 : ClF K c22)
    (C23 : ClF K c23)
    (C24 : ClF K c24)
    (m91_23 : PySem.W.findIn K (.ref c23) "__init__" = some (some (.ref f91)))
    (n91 : PySem.W.isFn K (.ref f91) = true)
    (mk23 : PySem.W.makesIn K c23 = true)
    (kc23 : PySem.W.keepIn K (.ref c23) = true)
    (m105_24 : PySem.W.findIn K (.ref c24) "__init__" = some (some (.ref f105)))
    (n105 : PySem.W.isFn K (.ref f105) = true)
    (mk24 : PySem.W.makesIn K c24 = true)
    (kc24 : PySem.W.keepIn K (.ref c24) = true)
    (pa92_23 : PySem.W.findIn K (.ref c23) "corners" = some (some (.ref p92_23)))
    (pb92_23 : PySem.W.specialIn K (.ref p92_23) "__get__" = some (some (.builtin "property.__get__")))
    (pc92_23 : PySem.W.takesIn K (.ref p92_23) = some true)
    (pd92_23 : PySem.W.recIn K p92_23 "property" = some (.ref f92 :: rs92_23))
    (pa92_24 : PySem.W.findIn K (.ref c24) "corners" = some (some (.ref p92_24)))
    (pb92_24 : PySem.W.specialIn K (.ref p92_24) "__get__" = some (some (.builtin "property.__get__")))
    (pc92_24 : PySem.W.takesIn K (.ref p92_24) = some true)
    (pd92_24 : PySem.W.recIn K p92_24 "property" = some (.ref f92 :: rs92_24))
    (pa93_23 : PySem.W.findIn K (.ref c23) "double_area" = some (some (.ref p93_23)))
    (pb93_23 : PySem.W.specialIn K (.ref p93_23) "__get__" = some (some (.builtin "property.__get__")))
    (pc93_23 : PySem.W.takesIn K (.ref p93_23) = some true)
    (pd93_23 : PySem.W.recIn K p93_23 "property" = some (.ref f93 :: rs93_23))
    (pa93_24 : PySem.W.findIn K (.ref c24) "double_area" = some (some (.ref p93_24)))
    (pb93_24 : PySem.W.specialIn K (.ref p93_24) "__get__" = some (some (.builtin "property.__get__")))
    (pc93_24 : PySem.W.takesIn K (.ref p93_24) = some true)
    (pd93_24 : PySem.W.recIn K p93_24 "property" = some (.ref f93 :: rs93_24))
    (pa95_23 : PySem.W.findIn K (.ref c23) "inner_points" = some (some (.ref p95_23)))
    (pb95_23 : PySem.W.specialIn K (.ref p95_23) "__get__" = some (some (.builtin "property.__get__")))
    (pc95_23 : PySem.W.takesIn K (.ref p95_23) = some true)
    (pd95_23 : PySem.W.recIn K p95_23 "property" = some (.ref f95 :: rs95_23))
    (pa95_24 : PySem.W.findIn K (.ref c24) "inner_points" = some (some (.ref p95_24)))
    (pb95_24 : PySem.W.specialIn K (.ref p95_24) "__get__" = some (some (.builtin "property.__get__")))
    (pc95_24 : PySem.W.takesIn K (.ref p95_24) = some true)
    (pd95_24 : PySem.W.recIn K p95_24 "property" = some (.ref f95 :: rs95_24))
    (pa96_23 : PySem.W.findIn K (.ref c23) "total_points" = some (some (.ref p96_23)))
    (pb96_23 : PySem.W.specialIn K (.ref p96_23) "__get__" = some (some (.builtin "property.__get__")))
    (pc96_23 : PySem.W.takesIn K (.ref p96_23) = some true)
    (pd96_23 : PySem.W.recIn K p96_23 "property" = some (.ref f96 :: rs96_23))
    (pa96_24 : PySem.W.findIn K (.ref c24) "total_points" = some (some (.ref p96_24)))
    (pb96_24 : PySem.W.specialIn K (.ref p96_24) "__get__" = some (some (.builtin "property.__get__")))
    (pc96_24 : PySem.W.takesIn K (.ref p96_24) = some true)
    (pd96_24 : PySem.W.recIn K p96_24 "property" = some (.ref f96 :: rs96_24))
    (s22_23 : PySem.W.subIn K (.ref c22) (.ref c23) = some false)
    (s22_24 : PySem.W.subIn K (.ref c22) (.ref c24) = some false)
    (s23_22 : PySem.W.subIn K (.ref c23) (.ref c22) = some false)
    (s23_24 : PySem.W.subIn K (.ref c23) (.ref c24) = some false)
    (s24_22 : PySem.W.subIn K (.ref c24) (.ref c22) = some false)
    (s24_23 : PySem.W.subIn K (.ref c24) (.ref c23) = some true)
    (na22_9 : PySem.W.findIn K (.ref c22) "known" = some none)
    (na23_9 : PySem.W.findIn K (.ref c23) "known" = some none)
    (na24_9 : PySem.W.findIn K (.ref c24) "known" = some none)
    (na22_10 : PySem.W.findIn K (.ref c22) "kept" = some none)
    (na23_10 : PySem.W.findIn K (.ref c23) "kept" = some none)
    (na24_10 : PySem.W.findIn K (.ref c24) "kept" = some none)
    (na22_11 : PySem.W.findIn K (.ref c22) "turns_left" = some none)
    (na23_11 : PySem.W.findIn K (.ref c23) "turns_left" = some none)
    (na24_11 : PySem.W.findIn K (.ref c24) "turns_left" = some none)
    (na22_12 : PySem.W.findIn K (.ref c22) "sides" = some none)
    (na23_12 : PySem.W.findIn K (.ref c23) "sides" = some none)
    (na24_12 : PySem.W.findIn K (.ref c24) "sides" = some none)
    (l84 : K.lookup f84 = some ⟨oc84, od84, .func (PySem.W.fnOf "edge_steps" "edge_steps" (defArgs (top 3)) (defBody (top 3)) (defScope (top 3)) .none kV84 dc84 pm84 an84 cd84 ct84), sl84⟩)
    (q84 : PySem.W.codeIn K cd84 "edge_steps" = true)
    (k84 : PySem.W.keepIn K (.ref f84) = true)
    (l85 : K.lookup f85 = some ⟨oc85, od85, .func (PySem.W.fnOf "corner_turns" "corner_turns" (defArgs (top 4)) (defBody (top 4)) (defScope (top 4)) .none kV85 dc85 pm85 an85 cd85 ct85), sl85⟩)
    (q85 : PySem.W.codeIn K cd85 "corner_turns" = true)
    (k85 : PySem.W.keepIn K (.ref f85) = true)
    (l86 : K.lookup f86 = some ⟨oc86, od86, .func (PySem.W.fnOf "goes_round_once" "goes_round_once" (defArgs (top 5)) (defBody (top 5)) (defScope (top 5)) .none kV86 dc86 pm86 an86 cd86 ct86), sl86⟩)
    (q86 : PySem.W.codeIn K cd86 "goes_round_once" = true)
    (k86 : PySem.W.keepIn K (.ref f86) = true)
    (l125 : K.lookup f125 = some ⟨oc125, od125, .func (PySem.W.fnOf "double_area_of" "double_area_of" (defArgs (top 6)) (defBody (top 6)) (defScope (top 6)) .none kV125 dc125 pm125 an125 cd125 ct125), sl125⟩)
    (q125 : PySem.W.codeIn K cd125 "double_area_of" = true)
    (k125 : PySem.W.keepIn K (.ref f125) = true)
    (l148 : K.lookup f148 = some ⟨oc148, od148, .func (PySem.W.fnOf "area_and_border" "area_and_border" (defArgs (top 7)) (defBody (top 7)) (defScope (top 7)) .none kV148 dc148 pm148 an148 cd148 ct148), sl148⟩)
    (q148 : PySem.W.codeIn K cd148 "area_and_border" = true)
    (k148 : PySem.W.keepIn K (.ref f148) = true)
    (l70 : K.lookup f70 = some ⟨oc70, od70, .func (PySem.W.fnOf "need_integer" "need_integer" (defArgs (top 20)) (defBody (top 20)) (defScope (top 20)) .none kV70 dc70 pm70 an70 cd70 ct70), sl70⟩)
    (q70 : PySem.W.codeIn K cd70 "need_integer" = true)
    (k70 : PySem.W.keepIn K (.ref f70) = true)
    (l149 : K.lookup f149 = some ⟨oc149, od149, .func (PySem.W.fnOf "need_at_least" "need_at_least" (defArgs (top 21)) (defBody (top 21)) (defScope (top 21)) .none kV149 dc149 pm149 an149 cd149 ct149), sl149⟩)
    (q149 : PySem.W.codeIn K cd149 "need_at_least" = true)
    (k149 : PySem.W.keepIn K (.ref f149) = true)
    (l3 : K.lookup f3 = some ⟨oc3, od3, .func (PySem.W.fnOf "common_divisor" "common_divisor" (defArgs (top 22)) (defBody (top 22)) (defScope (top 22)) .none kV3 dc3 pm3 an3 cd3 ct3), sl3⟩)
    (q3 : PySem.W.codeIn K cd3 "common_divisor" = true)
    (k3 : PySem.W.keepIn K (.ref f3) = true)
    (l37 : K.lookup f37 = some ⟨oc37, od37, .func (PySem.W.fnOf "is_point" "is_point" (defArgs (top 24)) (defBody (top 24)) (defScope (top 24)) .none kV37 dc37 pm37 an37 cd37 ct37), sl37⟩)
    (q37 : PySem.W.codeIn K cd37 "is_point" = true)
    (k37 : PySem.W.keepIn K (.ref f37) = true)
    (l38 : K.lookup f38 = some ⟨oc38, od38, .func (PySem.W.fnOf "first_wrong_point" "first_wrong_point" (defArgs (top 25)) (defBody (top 25)) (defScope (top 25)) .none kV38 dc38 pm38 an38 cd38 ct38), sl38⟩)
    (q38 : PySem.W.codeIn K cd38 "first_wrong_point" = true)
    (k38 : PySem.W.keepIn K (.ref f38) = true)
    (l39 : K.lookup f39 = some ⟨oc39, od39, .func (PySem.W.fnOf "need_point" "need_point" (defArgs (top 26)) (defBody (top 26)) (defScope (top 26)) .none kV39 dc39 pm39 an39 cd39 ct39), sl39⟩)
    (q39 : PySem.W.codeIn K cd39 "need_point" = true)
    (k39 : PySem.W.keepIn K (.ref f39) = true)
    (l42 : K.lookup f42 = some ⟨oc42, od42, .func (PySem.W.fnOf "content" "content" (defArgs (top 27)) (defBody (top 27)) (defScope (top 27)) .none kV42 dc42 pm42 an42 cd42 ct42), sl42⟩)
    (q42 : PySem.W.codeIn K cd42 "content" = true)
    (k42 : PySem.W.keepIn K (.ref f42) = true)
    (l91 : K.lookup f91 = some ⟨oc91, od91, .func (PySem.W.fnOf "__init__" "Polygon.__init__" (defArgs (mem (top 31) 1)) (defBody (mem (top 31) 1)) (defScope (mem (top 31) 1)) .none kV91 dc91 pm91 an91 cd91 ct91), sl91⟩)
    (q91 : PySem.W.codeIn K cd91 "Polygon.__init__" = true)
    (k91 : PySem.W.keepIn K (.ref f91) = true)
    (l92 : K.lookup f92 = some ⟨oc92, od92, .func (PySem.W.fnOf "corners" "Polygon.corners" (defArgs (mem (top 31) 2)) (defBody (mem (top 31) 2)) (defScope (mem (top 31) 2)) .none kV92 dc92 pm92 an92 cd92 ct92), sl92⟩)
    (q92 : PySem.W.codeIn K cd92 "Polygon.corners" = true)
    (k92 : PySem.W.keepIn K (.ref f92) = true)
    (l93 : K.lookup f93 = some ⟨oc93, od93, .func (PySem.W.fnOf "double_area" "Polygon.double_area" (defArgs (mem (top 31) 3)) (defBody (mem (top 31) 3)) (defScope (mem (top 31) 3)) .none kV93 dc93 pm93 an93 cd93 ct93), sl93⟩)
    (q93 : PySem.W.codeIn K cd93 "Polygon.double_area" = true)
    (k93 : PySem.W.keepIn K (.ref f93) = true)
    (l95 : K.lookup f95 = some ⟨oc95, od95, .func (PySem.W.fnOf "inner_points" "Polygon.inner_points" (defArgs (mem (top 31) 5)) (defBody (mem (top 31) 5)) (defScope (mem (top 31) 5)) .none kV95 dc95 pm95 an95 cd95 ct95), sl95⟩)
    (q95 : PySem.W.codeIn K cd95 "Polygon.inner_points" = true)
    (k95 : PySem.W.keepIn K (.ref f95) = true)
    (l96 : K.lookup f96 = some ⟨oc96, od96, .func (PySem.W.fnOf "total_points" "Polygon.total_points" (defArgs (mem (top 31) 6)) (defBody (mem (top 31) 6)) (defScope (mem (top 31) 6)) .none kV96 dc96 pm96 an96 cd96 ct96), sl96⟩)
    (q96 : PySem.W.codeIn K cd96 "Polygon.total_points" = true)
    (k96 : PySem.W.keepIn K (.ref f96) = true)
    (l105 : K.lookup f105 = some ⟨oc105, od105, .func (PySem.W.fnOf "__init__" "ConvexPolygon.__init__" (defArgs (mem (top 32) 0)) (defBody (mem (top 32) 0)) (defScope (mem (top 32) 0)) .none kV105 dc105 pm105 an105 cd105 ct105), sl105⟩)
    (q105 : PySem.W.codeIn K cd105 "ConvexPolygon.__init__" = true)
    (k105 : PySem.W.keepIn K (.ref f105) = true)
    (l151 : K.lookup f151 = some ⟨oc151, od151, .func (PySem.W.fnOf "need_polygon" "need_polygon" (defArgs (top 33)) (defBody (top 33)) (defScope (top 33)) .none kV151 dc151 pm151 an151 cd151 ct151), sl151⟩)
    (q151 : PySem.W.codeIn K cd151 "need_polygon" = true)
    (k151 : PySem.W.keepIn K (.ref f151) = true)
    (l111 : K.lookup f111 = some ⟨oc111, od111, .func (PySem.W.fnOf "need_corners" "need_corners" (defArgs (top 35)) (defBody (top 35)) (defScope (top 35)) .none kV111 dc111 pm111 an111 cd111 ct111), sl111⟩)
    (q111 : PySem.W.codeIn K cd111 "need_corners" = true)
    (k111 : PySem.W.keepIn K (.ref f111) = true)
    (l112 : K.lookup f112 = some ⟨oc112, od112, .func (PySem.W.fnOf "known_of" "known_of" (defArgs (top 36)) (defBody (top 36)) (defScope (top 36)) .none kV112 dc112 pm112 an112 cd112 ct112), sl112⟩)
    (q112 : PySem.W.codeIn K cd112 "known_of" = true)
    (k112 : PySem.W.keepIn K (.ref f112) = true)
    (l114 : K.lookup f114 = some ⟨oc114, od114, .func (PySem.W.fnOf "backwards" "backwards" (defArgs (top 38)) (defBody (top 38)) (defScope (top 38)) .none kV114 dc114 pm114 an114 cd114 ct114), sl114⟩)
    (q114 : PySem.W.codeIn K cd114 "backwards" = true)
    (k114 : PySem.W.keepIn K (.ref f114) = true)
    (l152 : K.lookup f152 = some ⟨oc152, od152, .func (PySem.W.fnOf "multiple_counts" "multiple_counts" (defArgs (top 41)) (defBody (top 41)) (defScope (top 41)) .none kV152 dc152 pm152 an152 cd152 ct152), sl152⟩)
    (q152 : PySem.W.codeIn K cd152 "multiple_counts" = true)
    (k152 : PySem.W.keepIn K (.ref f152) = true)
    (l4 : K.lookup f4 = some ⟨oc4, od4, .func (PySem.W.fnOf "_law_draws" "_law_draws" (defArgs (top 43)) (defBody (top 43)) (defScope (top 43)) .none kV4 dc4 pm4 an4 cd4 ct4), sl4⟩)
    (q4 : PySem.W.codeIn K cd4 "_law_draws" = true)
    (k4 : PySem.W.keepIn K (.ref f4) = true)
    (l5 : K.lookup f5 = some ⟨oc5, od5, .func (PySem.W.fnOf "_law_draw" "_law_draw" (defArgs (top 44)) (defBody (top 44)) (defScope (top 44)) .none kV5 dc5 pm5 an5 cd5 ct5), sl5⟩)
    (q5 : PySem.W.codeIn K cd5 "_law_draw" = true)
    (k5 : PySem.W.keepIn K (.ref f5) = true)
    (l63 : K.lookup f63 = some ⟨oc63, od63, .func (PySem.W.fnOf "_law_product" "_law_product" (defArgs (top 45)) (defBody (top 45)) (defScope (top 45)) .none kV63 dc63 pm63 an63 cd63 ct63), sl63⟩)
    (q63 : PySem.W.codeIn K cd63 "_law_product" = true)
    (k63 : PySem.W.keepIn K (.ref f63) = true)
    (l64 : K.lookup f64 = some ⟨oc64, od64, .func (PySem.W.fnOf "_law_numbers" "_law_numbers" (defArgs (top 46)) (defBody (top 46)) (defScope (top 46)) .none kV64 dc64 pm64 an64 cd64 ct64), sl64⟩)
    (q64 : PySem.W.codeIn K cd64 "_law_numbers" = true)
    (k64 : PySem.W.keepIn K (.ref f64) = true)
    (l76 : K.lookup f76 = some ⟨oc76, od76, .func (PySem.W.fnOf "_law_image" "_law_image" (defArgs (top 47)) (defBody (top 47)) (defScope (top 47)) .none kV76 dc76 pm76 an76 cd76 ct76), sl76⟩)
    (q76 : PySem.W.codeIn K cd76 "_law_image" = true)
    (k76 : PySem.W.keepIn K (.ref f76) = true)
    (l247 : K.lookup f247 = some ⟨oc247, od247, .func (PySem.W.fnOf "_law_curve" "_law_curve" (defArgs (top 48)) (defBody (top 48)) (defScope (top 48)) .none kV247 dc247 pm247 an247 cd247 ct247), sl247⟩)
    (q247 : PySem.W.codeIn K cd247 "_law_curve" = true)
    (k247 : PySem.W.keepIn K (.ref f247) = true)
    (l248 : K.lookup f248 = some ⟨oc248, od248, .func (PySem.W.fnOf "law" "law" (defArgs (top 49)) (defBody (top 49)) (defScope (top 49)) .none kV248 dc248 pm248 an248 cd248 ct248), sl248⟩)
    (q248 : PySem.W.codeIn K cd248 "law" = true)
    (k248 : PySem.W.keepIn K (.ref f248) = true)
    (cr23 : PySem.W.readsIn K c23 (.type "type") = true)
    (cg23 : PySem.W.specialIn K (.ref c23) "__getattribute__" = some (some (.builtin "type.__getattribute__")))
    (cv23_MAX_CORNERS : PySem.W.findCls K (.ref c23) (.type "type") "MAX_CORNERS" = some (.val (.int 60 ct_23_MAX_CORNERS)))
    (cr24 : PySem.W.readsIn K c24 (.type "type") = true)
    (cg24 : PySem.W.specialIn K (.ref c24) "__getattribute__" = some (some (.builtin "type.__getattribute__")))
    (cv24_MAX_CORNERS : PySem.W.findCls K (.ref c24) (.type "type") "MAX_CORNERS" = some (.val (.int 60 ct_24_MAX_CORNERS)))
    (fi91 : PySem.W.findCls K (.ref c23) (.type "type") "__init__" = some (.val (.ref f91)))
    (gg_LEAST_CORNERS : PySem.W.nsIn K mainGlobals "LEAST_CORNERS" = some (some (.int (3) gt_LEAST_CORNERS)))
    (z0 : PySem.W.nsIn K mainGlobals "len" = some none)
    (z1 : PySem.W.nsIn K mainGlobals "abs" = some none)
    (z2 : PySem.W.nsIn K mainGlobals "max" = some none)
    (z3 : PySem.W.nsIn K mainGlobals "min" = some none)
    (z4 : PySem.W.nsIn K mainGlobals "int" = some none)
    (z5 : PySem.W.nsIn K mainGlobals "range" = some none)
    (z6 : PySem.W.nsIn K mainGlobals "isinstance" = some none)
    (z7 : PySem.W.nsIn K mainGlobals "bool" = some none)
    (z8 : PySem.W.nsIn K mainGlobals "str" = some none)
    (z9 : PySem.W.nsIn K mainGlobals "tuple" = some none)
    (z10 : PySem.W.nsIn K mainGlobals "list" = some none)
    (z11 : PySem.W.nsIn K mainGlobals "dict" = some none)
    (z12 : PySem.W.nsIn K mainGlobals "sum" = some none)
    (z13 : PySem.W.nsIn K mainGlobals "enumerate" = some none)
    (z14 : PySem.W.nsIn K mainGlobals "zip" = some none)
    (z15 : PySem.W.nsIn K mainGlobals "repr" = some none)
    (z16 : PySem.W.nsIn K mainGlobals "sorted" = some none)
    (z17 : PySem.W.nsIn K mainGlobals "set" = some none)
    (z18 : PySem.W.nsIn K mainGlobals "any" = some none)
    (z19 : PySem.W.nsIn K mainGlobals "all" = some none)
    (z20 : PySem.W.nsIn K mainGlobals "divmod" = some none)
    : ∃ fd : FuncData, (∀ (s : Shared) (v : Value), BindsTo s fd ⟨[v], []⟩ [("_law_script", v)]) ∧ ∀ base : Heap, K.In base → base.Ns mainGlobals mg → ∃ S : Sta, S.K = K ∧ GoF l.prog w K mg base (L2.CX l.prog w) 42 fz fd ["_law_script"] (fun vs H Q E => vs.length = 1 ∧ spB S (callD T 20) F248 vs H Q E) := by
  have e := (PySem.W.mg_of X G a248).symm.trans hfa
  cases e

  refine ⟨(PySem.W.fnOf "law" "law" (defArgs (top 49)) (defBody (top 49)) (defScope (top 49)) .none kV248 dc248 pm248 an248 cd248 ct248), fun s v => .of_eq rfl, fun base _ _ => ⟨(⟨K, fun i => [].contains i, fun i => [22, 23, 24].contains i, lk 0 [(84, f84), (85, f85), (86, f86), (125, f125), (148, f148), (70, f70), (149, f149), (3, f3), (37, f37), (38, f38), (39, f39), (42, f42), (91, f91), (92, f92), (93, f93), (95, f95), (96, f96), (105, f105), (151, f151), (111, f111), (112, f112), (114, f114), (152, f152), (4, f4), (5, f5), (63, f63), (64, f64), (76, f76), (247, f247), (248, f248)], lk (PySem.W.fnOf "law" "law" (defArgs (top 49)) (defBody (top 49)) (defScope (top 49)) .none kV248 dc248 pm248 an248 cd248 ct248) [], fun i => ([] : List Nat).contains i, lk [] [], fun i => fidL.contains i, lk 0 [(22, c22), (23, c23), (24, c24)], cfT, fnmT⟩ : Sta), rfl, ?_⟩⟩
  have TF : TabOk (⟨K, fun i => [].contains i, fun i => [22, 23, 24].contains i, lk 0 [(84, f84), (85, f85), (86, f86), (125, f125), (148, f148), (70, f70), (149, f149), (3, f3), (37, f37), (38, f38), (39, f39), (42, f42), (91, f91), (92, f92), (93, f93), (95, f95), (96, f96), (105, f105), (151, f151), (111, f111), (112, f112), (114, f114), (152, f152), (4, f4), (5, f5), (63, f63), (64, f64), (76, f76), (247, f247), (248, f248)], lk (PySem.W.fnOf "law" "law" (defArgs (top 49)) (defBody (top 49)) (defScope (top 49)) .none kV248 dc248 pm248 an248 cd248 ct248) [], fun i => ([] : List Nat).contains i, lk [] [], fun i => fidL.contains i, lk 0 [(22, c22), (23, c23), (24, c24)], cfT, fnmT⟩ : Sta) mg tb := {
    base := ⟨inj_of hInj, ihs hCf, ihs (ac (C22.ins) (ac (C23.ins) (ac (C24.ins) an)))⟩
    blt := (ac (PySem.W.mg_none_of X G z0) (ac (PySem.W.mg_none_of X G z1) (ac (PySem.W.mg_none_of X G z2) (ac (PySem.W.mg_none_of X G z3) (ac (PySem.W.mg_none_of X G z4) (ac (PySem.W.mg_none_of X G z5) (ac (PySem.W.mg_none_of X G z6) (ac (PySem.W.mg_none_of X G z7) (ac (PySem.W.mg_none_of X G z8) (ac (PySem.W.mg_none_of X G z9) (ac (PySem.W.mg_none_of X G z10) (ac (PySem.W.mg_none_of X G z11) (ac (PySem.W.mg_none_of X G z12) (ac (PySem.W.mg_none_of X G z13) (ac (PySem.W.mg_none_of X G z14) (ac (PySem.W.mg_none_of X G z15) (ac (PySem.W.mg_none_of X G z16) (ac (PySem.W.mg_none_of X G z17) (ac (PySem.W.mg_none_of X G z18) (ac (PySem.W.mg_none_of X G z19) (ac (PySem.W.mg_none_of X G z20) an)))))))))))))))))))))
    fns := lku (ac ⟨PySem.W.mg_of X G a84, k84⟩ (ac ⟨PySem.W.mg_of X G a85, k85⟩ (ac ⟨PySem.W.mg_of X G a86, k86⟩ (ac ⟨PySem.W.mg_of X G a125, k125⟩ (ac ⟨PySem.W.mg_of X G a148, k148⟩ (ac ⟨PySem.W.mg_of X G a70, k70⟩ (ac ⟨PySem.W.mg_of X G a149, k149⟩ (ac ⟨PySem.W.mg_of X G a3, k3⟩ (ac ⟨PySem.W.mg_of X G a37, k37⟩ (ac ⟨PySem.W.mg_of X G a38, k38⟩ (ac ⟨PySem.W.mg_of X G a39, k39⟩ (ac ⟨PySem.W.mg_of X G a42, k42⟩ (ac ⟨PySem.W.mg_of X G a151, k151⟩ (ac ⟨PySem.W.mg_of X G a111, k111⟩ (ac ⟨PySem.W.mg_of X G a112, k112⟩ (ac ⟨PySem.W.mg_of X G a114, k114⟩ (ac ⟨PySem.W.mg_of X G a152, k152⟩ (ac ⟨PySem.W.mg_of X G a4, k4⟩ (ac ⟨PySem.W.mg_of X G a5, k5⟩ (ac ⟨PySem.W.mg_of X G a63, k63⟩ (ac ⟨PySem.W.mg_of X G a64, k64⟩ (ac ⟨PySem.W.mg_of X G a76, k76⟩ (ac ⟨PySem.W.mg_of X G a247, k247⟩ (ac ⟨PySem.W.mg_of X G a248, k248⟩ an))))))))))))))))))))))))
    dfl := lku an
    xs := lku an
    exs := lku an
    cls := fun x d cs h => lku (l := tb.cls) (P := fun (x : Str) (p : Nat × List Nat) => mg x = some (.ref (lk 0 [(22, c22), (23, c23), (24, c24)] p.1)) ∧ OwnTy (⟨K, fun i => [].contains i, fun i => [22, 23, 24].contains i, lk 0 [(84, f84), (85, f85), (86, f86), (125, f125), (148, f148), (70, f70), (149, f149), (3, f3), (37, f37), (38, f38), (39, f39), (42, f42), (91, f91), (92, f92), (93, f93), (95, f95), (96, f96), (105, f105), (151, f151), (111, f111), (112, f112), (114, f114), (152, f152), (4, f4), (5, f5), (63, f63), (64, f64), (76, f76), (247, f247), (248, f248)], lk (PySem.W.fnOf "law" "law" (defArgs (top 49)) (defBody (top 49)) (defScope (top 49)) .none kV248 dc248 pm248 an248 cd248 ct248) [], fun i => ([] : List Nat).contains i, lk [] [], fun i => fidL.contains i, lk 0 [(22, c22), (23, c23), (24, c24)], cfT, fnmT⟩ : Sta) p.1 p.2) (ac ⟨PySem.W.mg_of X G ca22, C22.own (ihs (ac (C22.se) (ac s23_22 (ac s24_22 an))))⟩ (ac ⟨PySem.W.mg_of X G ca23, C23.own (ihs (ac s22_23 (ac (C23.se) (ac s24_23 an))))⟩ (ac ⟨PySem.W.mg_of X G ca24, C24.own (ihs (ac s22_24 (ac s23_24 (ac (C24.se) an))))⟩ an))) x (d, cs) h
    news := fun x c f fl h => lku (l := tb.news) (P := fun (x : Str) (p : Nat × Nat × List Nat) => [22, 23, 24].contains p.1 = true ∧ mg x = some (.ref (lk 0 [(22, c22), (23, c23), (24, c24)] p.1)) ∧ Mk K (lk 0 [(22, c22), (23, c23), (24, c24)] p.1) (lk 0 [(84, f84), (85, f85), (86, f86), (125, f125), (148, f148), (70, f70), (149, f149), (3, f3), (37, f37), (38, f38), (39, f39), (42, f42), (91, f91), (92, f92), (93, f93), (95, f95), (96, f96), (105, f105), (151, f151), (111, f111), (112, f112), (114, f114), (152, f152), (4, f4), (5, f5), (63, f63), (64, f64), (76, f76), (247, f247), (248, f248)] p.2.1) ∧ p.2.2 = cfT p.1) (ac ⟨rfl, PySem.W.mg_of X G ca23, ⟨mk23, m91_23, n91, kc23⟩, rfl⟩ (ac ⟨rfl, PySem.W.mg_of X G ca24, ⟨mk24, m105_24, n105, kc24⟩, rfl⟩ an)) x (c, f, fl) h
    flds := fun x f cs h => lku (l := tb.flds) (P := fun (x : Str) (p : Nat × List (Nat × Nat)) => FldF (⟨K, fun i => [].contains i, fun i => [22, 23, 24].contains i, lk 0 [(84, f84), (85, f85), (86, f86), (125, f125), (148, f148), (70, f70), (149, f149), (3, f3), (37, f37), (38, f38), (39, f39), (42, f42), (91, f91), (92, f92), (93, f93), (95, f95), (96, f96), (105, f105), (151, f151), (111, f111), (112, f112), (114, f114), (152, f152), (4, f4), (5, f5), (63, f63), (64, f64), (76, f76), (247, f247), (248, f248)], lk (PySem.W.fnOf "law" "law" (defArgs (top 49)) (defBody (top 49)) (defScope (top 49)) .none kV248 dc248 pm248 an248 cd248 ct248) [], fun i => ([] : List Nat).contains i, lk [] [], fun i => fidL.contains i, lk 0 [(22, c22), (23, c23), (24, c24)], cfT, fnmT⟩ : Sta) x p.1 p.2 ∧ ∀ c, [22, 23, 24].contains c = true → NoAttr K (lk 0 [(22, c22), (23, c23), (24, c24)] c) x) (ac ⟨⟨rfl, rfl, lku (ac (yes ⟨na23_10, fun vs hl => zip_at (by decide +kernel : ((cfT 23).map fnmT).findIdx? (· == ("kept" : Str)) = some 0) hl⟩) (ac (yes ⟨na24_10, fun vs hl => zip_at (by decide +kernel : ((cfT 24).map fnmT).findIdx? (· == ("kept" : Str)) = some 0) hl⟩) an))⟩, ihs (ac na22_10 (ac na23_10 (ac na24_10 an)))⟩ (ac ⟨⟨rfl, rfl, lku (ac (yes ⟨na22_9, fun vs hl => zip_at (by decide +kernel : ((cfT 22).map fnmT).findIdx? (· == ("known" : Str)) = some 0) hl⟩) an)⟩, ihs (ac na22_9 (ac na23_9 (ac na24_9 an)))⟩ (ac ⟨⟨rfl, rfl, lku (ac (yes ⟨na23_12, fun vs hl => zip_at (by decide +kernel : ((cfT 23).map fnmT).findIdx? (· == ("sides" : Str)) = some 2) hl⟩) (ac (yes ⟨na24_12, fun vs hl => zip_at (by decide +kernel : ((cfT 24).map fnmT).findIdx? (· == ("sides" : Str)) = some 2) hl⟩) an))⟩, ihs (ac na22_12 (ac na23_12 (ac na24_12 an)))⟩ (ac ⟨⟨rfl, rfl, lku (ac (yes ⟨na23_11, fun vs hl => zip_at (by decide +kernel : ((cfT 23).map fnmT).findIdx? (· == ("turns_left" : Str)) = some 1) hl⟩) (ac (yes ⟨na24_11, fun vs hl => zip_at (by decide +kernel : ((cfT 24).map fnmT).findIdx? (· == ("turns_left" : Str)) = some 1) hl⟩) an))⟩, ihs (ac na22_11 (ac na23_11 (ac na24_11 an)))⟩ an)))) x (f, cs) h
    props := lku (ac (lku (ac (yes ⟨p92_23, ⟨pa92_23, pb92_23, pc92_23, ⟨_, pd92_23⟩⟩⟩) (ac (yes ⟨p92_24, ⟨pa92_24, pb92_24, pc92_24, ⟨_, pd92_24⟩⟩⟩) an))) (ac (lku (ac (yes ⟨p93_23, ⟨pa93_23, pb93_23, pc93_23, ⟨_, pd93_23⟩⟩⟩) (ac (yes ⟨p93_24, ⟨pa93_24, pb93_24, pc93_24, ⟨_, pd93_24⟩⟩⟩) an))) (ac (lku (ac (yes ⟨p95_23, ⟨pa95_23, pb95_23, pc95_23, ⟨_, pd95_23⟩⟩⟩) (ac (yes ⟨p95_24, ⟨pa95_24, pb95_24, pc95_24, ⟨_, pd95_24⟩⟩⟩) an))) (ac (lku (ac (yes ⟨p96_23, ⟨pa96_23, pb96_23, pc96_23, ⟨_, pd96_23⟩⟩⟩) (ac (yes ⟨p96_24, ⟨pa96_24, pb96_24, pc96_24, ⟨_, pd96_24⟩⟩⟩) an))) an))))
    mths := lku an
    cons := fun x f d h => lku (l := tb.cons) (P := fun (p : Str × Str) (d : PyI.D) => isC d = true ∧ ∃ Ca mc u, mg p.1 = some (.ref Ca) ∧ ClX.CRead K Ca mc ∧ ClX.CVal K Ca mc p.2 (toV d) u) (ac ⟨rfl, _, _, _, PySem.W.mg_of X G ca23, ⟨cr23, cg23⟩, ⟨cv23_MAX_CORNERS, ⟨_, rfl⟩⟩⟩ (ac ⟨rfl, _, _, _, PySem.W.mg_of X G ca24, ⟨cr24, cg24⟩, ⟨cv24_MAX_CORNERS, ⟨_, rfl⟩⟩⟩ an)) (x, f) d h
    eqs := ⟨lku (ac (no rfl) (ac (no rfl) an)), fun c d hc hd => ihs (P := fun c => ∀ d, [22, 23, 24].contains d = true → (c, d) ∉ tb.ups → (lk 0 [(22, c22), (23, c23), (24, c24)] d = lk 0 [(22, c22), (23, c23), (24, c24)] c ∨ PySem.W.subIn K (.ref (lk 0 [(22, c22), (23, c23), (24, c24)] d)) (.ref (lk 0 [(22, c22), (23, c23), (24, c24)] c)) = some false)) (ac (ihs (P := fun d => (_, d) ∉ _ → _) (ac (fun _ => .inl rfl) (ac (fun _ => .inr s23_22) (ac (fun _ => .inr s24_22) an)))) (ac (ihs (P := fun d => (_, d) ∉ _ → _) (ac (fun _ => .inr s22_23) (ac (fun _ => .inl rfl) (ac (fun z => absurd (by decide) z) an)))) (ac (ihs (P := fun d => (_, d) ∉ _ → _) (ac (fun _ => .inr s22_24) (ac (fun _ => .inr s23_24) (ac (fun _ => .inl rfl) an)))) an))) c hc d hd, fun c d hc hd h => ihs (P := fun c => ∀ d, [22, 23, 24].contains d = true → (c, d) ∈ tb.ups → ((lk 0 [(22, c22), (23, c23), (24, c24)] d) ≠ (lk 0 [(22, c22), (23, c23), (24, c24)] c) ∧ PySem.W.subIn K (.ref (lk 0 [(22, c22), (23, c23), (24, c24)] d)) (.ref (lk 0 [(22, c22), (23, c23), (24, c24)] c)) = some true)) (ac (ihs (P := fun d => (_, d) ∈ _ → _) (ac (fun z => absurd z (by decide)) (ac (fun z => absurd z (by decide)) (ac (fun z => absurd z (by decide)) an)))) (ac (ihs (P := fun d => (_, d) ∈ _ → _) (ac (fun z => absurd z (by decide)) (ac (fun z => absurd z (by decide)) (ac (fun _ => ⟨ne_cls s23_24 C24.se, s24_23⟩) an)))) (ac (ihs (P := fun d => (_, d) ∈ _ → _) (ac (fun z => absurd z (by decide)) (ac (fun z => absurd z (by decide)) (ac (fun z => absurd z (by decide)) an)))) an))) c hc d hd h⟩
    reprs := lku (ac (no rfl) an)
    clsv := fun x c f fl h => lku (l := tb.clsv) (P := fun (x : Str) (p : Nat × Nat × List Nat) => [22, 23, 24].contains p.1 = true ∧ Mk K (lk 0 [(22, c22), (23, c23), (24, c24)] p.1) (lk 0 [(84, f84), (85, f85), (86, f86), (125, f125), (148, f148), (70, f70), (149, f149), (3, f3), (37, f37), (38, f38), (39, f39), (42, f42), (91, f91), (92, f92), (93, f93), (95, f95), (96, f96), (105, f105), (151, f151), (111, f111), (112, f112), (114, f114), (152, f152), (4, f4), (5, f5), (63, f63), (64, f64), (76, f76), (247, f247), (248, f248)] p.2.1) ∧ p.2.2 = cfT p.1) an x (c, f, fl) h
    cmts := fun x m c g h => lku (l := tb.cmts) (P := fun (x : Str × Str) (p : Nat × Nat) => [22, 23, 24].contains p.1 = true ∧ mg x.1 = some (.ref (lk 0 [(22, c22), (23, c23), (24, c24)] p.1)) ∧ ∃ mc q, ClX.CRead K (lk 0 [(22, c22), (23, c23), (24, c24)] p.1) mc ∧ ClX.CMet K (lk 0 [(22, c22), (23, c23), (24, c24)] p.1) mc x.2 q (lk 0 [(84, f84), (85, f85), (86, f86), (125, f125), (148, f148), (70, f70), (149, f149), (3, f3), (37, f37), (38, f38), (39, f39), (42, f42), (91, f91), (92, f92), (93, f93), (95, f95), (96, f96), (105, f105), (151, f151), (111, f111), (112, f112), (114, f114), (152, f152), (4, f4), (5, f5), (63, f63), (64, f64), (76, f76), (247, f247), (248, f248)] p.2)) an (x, m) (c, g) h
    smts := fun x m c g h => lku (l := tb.smts) (P := fun (x : Str × Str) (p : Nat × Nat) => [22, 23, 24].contains p.1 = true ∧ mg x.1 = some (.ref (lk 0 [(22, c22), (23, c23), (24, c24)] p.1)) ∧ ∃ mc q, ClX.CRead K (lk 0 [(22, c22), (23, c23), (24, c24)] p.1) mc ∧ (SMet K (lk 0 [(22, c22), (23, c23), (24, c24)] p.1) mc x.2 q (lk 0 [(84, f84), (85, f85), (86, f86), (125, f125), (148, f148), (70, f70), (149, f149), (3, f3), (37, f37), (38, f38), (39, f39), (42, f42), (91, f91), (92, f92), (93, f93), (95, f95), (96, f96), (105, f105), (151, f151), (111, f111), (112, f112), (114, f114), (152, f152), (4, f4), (5, f5), (63, f63), (64, f64), (76, f76), (247, f247), (248, f248)] p.2) ∨ FMet K (lk 0 [(22, c22), (23, c23), (24, c24)] p.1) mc x.2 (lk 0 [(84, f84), (85, f85), (86, f86), (125, f125), (148, f148), (70, f70), (149, f149), (3, f3), (37, f37), (38, f38), (39, f39), (42, f42), (91, f91), (92, f92), (93, f93), (95, f95), (96, f96), (105, f105), (151, f151), (111, f111), (112, f112), (114, f114), (152, f152), (4, f4), (5, f5), (63, f63), (64, f64), (76, f76), (247, f247), (248, f248)] p.2))) (ac ⟨rfl, PySem.W.mg_of X G ca23, _, c23, ⟨cr23, cg23⟩, .inr ⟨fi91, k91⟩⟩ an) (x, m) (c, g) h
    kwd := fun g n ks q h => lku (l := tb.kwd) (P := fun (p : Nat × Nat × List Str) (q : List (Nat ⊕ PyI.D)) => (([] : List Nat).contains p.1 = true ∧ (∀ d, Sum.inr d ∈ q → isC d = true) ∧ ∃ gU, KBn K (lk (PySem.W.fnOf "law" "law" (defArgs (top 49)) (defBody (top 49)) (defScope (top 49)) .none kV248 dc248 pm248 an248 cd248 ct248) [] p.1) (lk [] [] p.1) p.2.1 p.2.2 gU (gVof q))) an (g, n, ks) q h
    glbs := lku (ac ⟨V.int (3), _, PySem.W.mg_of X G gg_LEAST_CORNERS, ⟨_, rfl⟩, fun F => rep_int (F := F)⟩ an) }
  have DO : DefsOk (⟨K, fun i => [].contains i, fun i => [22, 23, 24].contains i, lk 0 [(84, f84), (85, f85), (86, f86), (125, f125), (148, f148), (70, f70), (149, f149), (3, f3), (37, f37), (38, f38), (39, f39), (42, f42), (91, f91), (92, f92), (93, f93), (95, f95), (96, f96), (105, f105), (151, f151), (111, f111), (112, f112), (114, f114), (152, f152), (4, f4), (5, f5), (63, f63), (64, f64), (76, f76), (247, f247), (248, f248)], lk (PySem.W.fnOf "law" "law" (defArgs (top 49)) (defBody (top 49)) (defScope (top 49)) .none kV248 dc248 pm248 an248 cd248 ct248) [], fun i => ([] : List Nat).contains i, lk [] [], fun i => fidL.contains i, lk 0 [(22, c22), (23, c23), (24, c24)], cfT, fnmT⟩ : Sta) tb defs := ⟨oks, (ac ⟨_, ⟨_, _, _, _, _, _, _, _, _, _, rfl, l84, q84, .inl ⟨rfl, bo84⟩⟩⟩ (ac ⟨_, ⟨_, _, _, _, _, _, _, _, _, _, rfl, l85, q85, .inl ⟨rfl, bo85⟩⟩⟩ (ac ⟨_, ⟨_, _, _, _, _, _, _, _, _, _, rfl, l86, q86, .inl ⟨rfl, bo86⟩⟩⟩ (ac ⟨_, ⟨_, _, _, _, _, _, _, _, _, _, rfl, l125, q125, .inl ⟨rfl, bo125⟩⟩⟩ (ac ⟨_, ⟨_, _, _, _, _, _, _, _, _, _, rfl, l148, q148, .inl ⟨rfl, bo148⟩⟩⟩ (ac ⟨_, ⟨_, _, _, _, _, _, _, _, _, _, rfl, l70, q70, .inl ⟨rfl, bo70⟩⟩⟩ (ac ⟨_, ⟨_, _, _, _, _, _, _, _, _, _, rfl, l149, q149, .inl ⟨rfl, bo149⟩⟩⟩ (ac ⟨_, ⟨_, _, _, _, _, _, _, _, _, _, rfl, l3, q3, .inl ⟨rfl, bo3⟩⟩⟩ (ac ⟨_, ⟨_, _, _, _, _, _, _, _, _, _, rfl, l37, q37, .inl ⟨rfl, bo37⟩⟩⟩ (ac ⟨_, ⟨_, _, _, _, _, _, _, _, _, _, rfl, l38, q38, .inl ⟨rfl, bo38⟩⟩⟩ (ac ⟨_, ⟨_, _, _, _, _, _, _, _, _, _, rfl, l39, q39, .inl ⟨rfl, bo39⟩⟩⟩ (ac ⟨_, ⟨_, _, _, _, _, _, _, _, _, _, rfl, l42, q42, .inl ⟨rfl, bo42⟩⟩⟩ (ac ⟨_, ⟨_, _, _, _, _, _, _, _, _, _, rfl, l91, q91, .inl ⟨rfl, bo91⟩⟩⟩ (ac ⟨_, ⟨_, _, _, _, _, _, _, _, _, _, rfl, l92, q92, .inl ⟨rfl, bo92⟩⟩⟩ (ac ⟨_, ⟨_, _, _, _, _, _, _, _, _, _, rfl, l93, q93, .inl ⟨rfl, bo93⟩⟩⟩ (ac ⟨_, ⟨_, _, _, _, _, _, _, _, _, _, rfl, l95, q95, .inl ⟨rfl, bo95⟩⟩⟩ (ac ⟨_, ⟨_, _, _, _, _, _, _, _, _, _, rfl, l96, q96, .inl ⟨rfl, bo96⟩⟩⟩ (ac ⟨_, ⟨_, _, _, _, _, _, _, _, _, _, rfl, l105, q105, .inl ⟨rfl, bo105⟩⟩⟩ (ac ⟨_, ⟨_, _, _, _, _, _, _, _, _, _, rfl, l151, q151, .inl ⟨rfl, bo151⟩⟩⟩ (ac ⟨_, ⟨_, _, _, _, _, _, _, _, _, _, rfl, l111, q111, .inl ⟨rfl, bo111⟩⟩⟩ (ac ⟨_, ⟨_, _, _, _, _, _, _, _, _, _, rfl, l112, q112, .inl ⟨rfl, bo112⟩⟩⟩ (ac ⟨_, ⟨_, _, _, _, _, _, _, _, _, _, rfl, l114, q114, .inl ⟨rfl, bo114⟩⟩⟩ (ac ⟨_, ⟨_, _, _, _, _, _, _, _, _, _, rfl, l152, q152, .inl ⟨rfl, bo152⟩⟩⟩ (ac ⟨_, ⟨_, _, _, _, _, _, _, _, _, _, rfl, l4, q4, .inl ⟨rfl, bo4⟩⟩⟩ (ac ⟨_, ⟨_, _, _, _, _, _, _, _, _, _, rfl, l5, q5, .inl ⟨rfl, bo5⟩⟩⟩ (ac ⟨_, ⟨_, _, _, _, _, _, _, _, _, _, rfl, l63, q63, .inl ⟨rfl, bo63⟩⟩⟩ (ac ⟨_, ⟨_, _, _, _, _, _, _, _, _, _, rfl, l64, q64, .inl ⟨rfl, bo64⟩⟩⟩ (ac ⟨_, ⟨_, _, _, _, _, _, _, _, _, _, rfl, l76, q76, .inl ⟨rfl, bo76⟩⟩⟩ (ac ⟨_, ⟨_, _, _, _, _, _, _, _, _, _, rfl, l247, q247, .inl ⟨rfl, bo247⟩⟩⟩ (ac ⟨_, ⟨_, _, _, _, _, _, _, _, _, _, rfl, l248, q248, .inl ⟨rfl, bo248⟩⟩⟩ an)))))))))))))))))))))))))))))), (ac (no rfl) (ac (no rfl) (ac (no rfl) (ac (no rfl) (ac (no rfl) (ac (no rfl) (ac (no rfl) (ac (no rfl) (ac (no rfl) (ac (no rfl) (ac (no rfl) (ac (no rfl) (ac (no rfl) (ac (no rfl) (ac (no rfl) (ac (no rfl) (ac (no rfl) (ac (no rfl) (ac (no rfl) (ac (no rfl) (ac (no rfl) (ac (no rfl) (ac (no rfl) (ac (no rfl) (ac (no rfl) (ac (no rfl) (ac (no rfl) (ac (no rfl) (ac (no rfl) (ac (no rfl) an))))))))))))))))))))))))))))))⟩
  exact def_fix ok248 TF (all_ok TF DO 20) ⟨_, _, _, _, _, _, _, _, _, _, rfl, l248, q248, .inl ⟨rfl, bo248⟩⟩ rfl
end KK

namespace KK
open PySem PySem.Spec PyProof.Rows L2 PyI
def yc22 (K : PySem.W.Frag) : Addr := He.ga K "Outline"
def yc23 (K : PySem.W.Frag) : Addr := He.ga K "Polygon"
def yc24 (K : PySem.W.Frag) : Addr := He.ga K "ConvexPolygon"
def yf84 (K : PySem.W.Frag) : Addr := He.ga K "edge_steps"
def yf85 (K : PySem.W.Frag) : Addr := He.ga K "corner_turns"
def yf86 (K : PySem.W.Frag) : Addr := He.ga K "goes_round_once"
def yf125 (K : PySem.W.Frag) : Addr := He.ga K "double_area_of"
def yf148 (K : PySem.W.Frag) : Addr := He.ga K "area_and_border"
def yf70 (K : PySem.W.Frag) : Addr := He.ga K "need_integer"
def yf149 (K : PySem.W.Frag) : Addr := He.ga K "need_at_least"
def yf3 (K : PySem.W.Frag) : Addr := He.ga K "common_divisor"
def yf37 (K : PySem.W.Frag) : Addr := He.ga K "is_point"
def yf38 (K : PySem.W.Frag) : Addr := He.ga K "first_wrong_point"
def yf39 (K : PySem.W.Frag) : Addr := He.ga K "need_point"
def yf42 (K : PySem.W.Frag) : Addr := He.ga K "content"
def yf91 (K : PySem.W.Frag) : Addr := He.ma K (yc23 K) "__init__"
def yp92_23 (K : PySem.W.Frag) : Addr := He.ma K (yc23 K) "corners"
def yp92_24 (K : PySem.W.Frag) : Addr := He.ma K (yc24 K) "corners"
def yf92 (K : PySem.W.Frag) : Addr := prA K (yp92_23 K) "property"
def yr92_23 (K : PySem.W.Frag) : List Value := prT K (yp92_23 K) "property"
def yr92_24 (K : PySem.W.Frag) : List Value := prT K (yp92_24 K) "property"
def yp93_23 (K : PySem.W.Frag) : Addr := He.ma K (yc23 K) "double_area"
def yp93_24 (K : PySem.W.Frag) : Addr := He.ma K (yc24 K) "double_area"
def yf93 (K : PySem.W.Frag) : Addr := prA K (yp93_23 K) "property"
def yr93_23 (K : PySem.W.Frag) : List Value := prT K (yp93_23 K) "property"
def yr93_24 (K : PySem.W.Frag) : List Value := prT K (yp93_24 K) "property"
def yp95_23 (K : PySem.W.Frag) : Addr := He.ma K (yc23 K) "inner_points"
def yp95_24 (K : PySem.W.Frag) : Addr := He.ma K (yc24 K) "inner_points"
def yf95 (K : PySem.W.Frag) : Addr := prA K (yp95_23 K) "property"
def yr95_23 (K : PySem.W.Frag) : List Value := prT K (yp95_23 K) "property"
def yr95_24 (K : PySem.W.Frag) : List Value := prT K (yp95_24 K) "property"
def yp96_23 (K : PySem.W.Frag) : Addr := He.ma K (yc23 K) "total_points"
def yp96_24 (K : PySem.W.Frag) : Addr := He.ma K (yc24 K) "total_points"
def yf96 (K : PySem.W.Frag) : Addr := prA K (yp96_23 K) "property"
def yr96_23 (K : PySem.W.Frag) : List Value := prT K (yp96_23 K) "property"
def yr96_24 (K : PySem.W.Frag) : List Value := prT K (yp96_24 K) "property"
def yf105 (K : PySem.W.Frag) : Addr := He.ma K (yc24 K) "__init__"
def yf151 (K : PySem.W.Frag) : Addr := He.ga K "need_polygon"
def yf111 (K : PySem.W.Frag) : Addr := He.ga K "need_corners"
def yf112 (K : PySem.W.Frag) : Addr := He.ga K "known_of"
def yf114 (K : PySem.W.Frag) : Addr := He.ga K "backwards"
def yf152 (K : PySem.W.Frag) : Addr := He.ga K "multiple_counts"
def yf4 (K : PySem.W.Frag) : Addr := He.ga K "_law_draws"
def yf5 (K : PySem.W.Frag) : Addr := He.ga K "_law_draw"
def yf63 (K : PySem.W.Frag) : Addr := He.ga K "_law_product"
def yf64 (K : PySem.W.Frag) : Addr := He.ga K "_law_numbers"
def yf76 (K : PySem.W.Frag) : Addr := He.ga K "_law_image"
def yf247 (K : PySem.W.Frag) : Addr := He.ga K "_law_curve"
def yf248 (K : PySem.W.Frag) : Addr := He.ga K "law"
def loose0 : List Str := ["_wall", "__name__", "closed_edges", "edge_steps", "corner_turns", "goes_round_once", "double_area_of", "area_and_border", "first_meeting", "box_of", "is_parted", "ShapeError", "InvalidInteger", "InvalidPoint", "InvalidPolygon", "DegenerateCorner", "CrossingEdges", "NotConvex", "need_integer", "need_at_least"]
def loose1 : List Str := ["common_divisor", "is_point", "first_wrong_point", "need_point", "content", "LEAST_CORNERS", "Outline", "Polygon", "ConvexPolygon", "need_polygon", "sides_of", "need_corners", "known_of", "need_apart_edges", "backwards", "first_right_turn", "multiple_counts", "_law_draws", "_law_draw", "_law_product"]
def loose2 : List Str := ["_law_numbers", "_law_image", "_law_curve"]
def loose : List Str := loose0 ++ loose1 ++ loose2
def fbs0 (K : PySem.W.Frag) : List Bool := [PyI.nodB K (yf84 K), PyI.nodB K (yf85 K), PyI.nodB K (yf86 K), PyI.nodB K (yf125 K), PyI.nodB K (yf148 K), PyI.nodB K (yf70 K), PyI.nodB K (yf149 K), PyI.nodB K (yf3 K), PyI.nodB K (yf37 K), PyI.nodB K (yf38 K), PyI.nodB K (yf39 K), PyI.nodB K (yf42 K), PyI.nodB K (yf91 K), PyI.nodB K (yf92 K), PyI.nodB K (yf93 K), PyI.nodB K (yf95 K), PyI.nodB K (yf96 K), PyI.nodB K (yf105 K), PyI.nodB K (yf151 K), PyI.nodB K (yf111 K)]
def fbs1 (K : PySem.W.Frag) : List Bool := [PyI.nodB K (yf112 K), PyI.nodB K (yf114 K), PyI.nodB K (yf152 K), PyI.nodB K (yf4 K), PyI.nodB K (yf5 K), PyI.nodB K (yf63 K), PyI.nodB K (yf64 K), PyI.nodB K (yf76 K), PyI.nodB K (yf247 K), PyI.nodB K (yf248 K), decide (PySem.W.nsIn K mainGlobals "Outline" = some (some (.ref (yc22 K)))), decide (PySem.W.nsIn K mainGlobals "Polygon" = some (some (.ref (yc23 K)))), decide (PySem.W.nsIn K mainGlobals "ConvexPolygon" = some (some (.ref (yc24 K)))), decide (PySem.W.nsIn K mainGlobals "edge_steps" = some (some (.ref (yf84 K)))), decide (PySem.W.nsIn K mainGlobals "corner_turns" = some (some (.ref (yf85 K)))), decide (PySem.W.nsIn K mainGlobals "goes_round_once" = some (some (.ref (yf86 K)))), decide (PySem.W.nsIn K mainGlobals "double_area_of" = some (some (.ref (yf125 K)))), decide (PySem.W.nsIn K mainGlobals "area_and_border" = some (some (.ref (yf148 K)))), decide (PySem.W.nsIn K mainGlobals "need_integer" = some (some (.ref (yf70 K)))), decide (PySem.W.nsIn K mainGlobals "need_at_least" = some (some (.ref (yf149 K))))]
def fbs2 (K : PySem.W.Frag) : List Bool := [decide (PySem.W.nsIn K mainGlobals "common_divisor" = some (some (.ref (yf3 K)))), decide (PySem.W.nsIn K mainGlobals "is_point" = some (some (.ref (yf37 K)))), decide (PySem.W.nsIn K mainGlobals "first_wrong_point" = some (some (.ref (yf38 K)))), decide (PySem.W.nsIn K mainGlobals "need_point" = some (some (.ref (yf39 K)))), decide (PySem.W.nsIn K mainGlobals "content" = some (some (.ref (yf42 K)))), decide (PySem.W.nsIn K mainGlobals "need_polygon" = some (some (.ref (yf151 K)))), decide (PySem.W.nsIn K mainGlobals "need_corners" = some (some (.ref (yf111 K)))), decide (PySem.W.nsIn K mainGlobals "known_of" = some (some (.ref (yf112 K)))), decide (PySem.W.nsIn K mainGlobals "backwards" = some (some (.ref (yf114 K)))), decide (PySem.W.nsIn K mainGlobals "multiple_counts" = some (some (.ref (yf152 K)))), decide (PySem.W.nsIn K mainGlobals "_law_draws" = some (some (.ref (yf4 K)))), decide (PySem.W.nsIn K mainGlobals "_law_draw" = some (some (.ref (yf5 K)))), decide (PySem.W.nsIn K mainGlobals "_law_product" = some (some (.ref (yf63 K)))), decide (PySem.W.nsIn K mainGlobals "_law_numbers" = some (some (.ref (yf64 K)))), decide (PySem.W.nsIn K mainGlobals "_law_image" = some (some (.ref (yf76 K)))), decide (PySem.W.nsIn K mainGlobals "_law_curve" = some (some (.ref (yf247 K)))), decide (PySem.W.nsIn K mainGlobals "law" = some (some (.ref (yf248 K)))), PyI.clB K (yc22 K), PyI.clB K (yc23 K), PyI.clB K (yc24 K)]
def fbs3 (K : PySem.W.Frag) : List Bool := [decide (PySem.W.findIn K (.ref (yc23 K)) "__init__" = some (some (.ref (yf91 K)))), PySem.W.isFn K (.ref (yf91 K)), PySem.W.makesIn K (yc23 K), PySem.W.keepIn K (.ref (yc23 K)), decide (PySem.W.findIn K (.ref (yc24 K)) "__init__" = some (some (.ref (yf105 K)))), PySem.W.isFn K (.ref (yf105 K)), PySem.W.makesIn K (yc24 K), PySem.W.keepIn K (.ref (yc24 K)), decide (PySem.W.findIn K (.ref (yc23 K)) "corners" = some (some (.ref (yp92_23 K)))), decide (PySem.W.specialIn K (.ref (yp92_23 K)) "__get__" = some (some (.builtin "property.__get__"))), decide (PySem.W.takesIn K (.ref (yp92_23 K)) = some true), decide (PySem.W.recIn K (yp92_23 K) "property" = some (.ref (yf92 K) :: (yr92_23 K))), decide (PySem.W.findIn K (.ref (yc24 K)) "corners" = some (some (.ref (yp92_24 K)))), decide (PySem.W.specialIn K (.ref (yp92_24 K)) "__get__" = some (some (.builtin "property.__get__"))), decide (PySem.W.takesIn K (.ref (yp92_24 K)) = some true), decide (PySem.W.recIn K (yp92_24 K) "property" = some (.ref (yf92 K) :: (yr92_24 K))), decide (PySem.W.findIn K (.ref (yc23 K)) "double_area" = some (some (.ref (yp93_23 K)))), decide (PySem.W.specialIn K (.ref (yp93_23 K)) "__get__" = some (some (.builtin "property.__get__"))), decide (PySem.W.takesIn K (.ref (yp93_23 K)) = some true), decide (PySem.W.recIn K (yp93_23 K) "property" = some (.ref (yf93 K) :: (yr93_23 K)))]
def fbs4 (K : PySem.W.Frag) : List Bool := [decide (PySem.W.findIn K (.ref (yc24 K)) "double_area" = some (some (.ref (yp93_24 K)))), decide (PySem.W.specialIn K (.ref (yp93_24 K)) "__get__" = some (some (.builtin "property.__get__"))), decide (PySem.W.takesIn K (.ref (yp93_24 K)) = some true), decide (PySem.W.recIn K (yp93_24 K) "property" = some (.ref (yf93 K) :: (yr93_24 K))), decide (PySem.W.findIn K (.ref (yc23 K)) "inner_points" = some (some (.ref (yp95_23 K)))), decide (PySem.W.specialIn K (.ref (yp95_23 K)) "__get__" = some (some (.builtin "property.__get__"))), decide (PySem.W.takesIn K (.ref (yp95_23 K)) = some true), decide (PySem.W.recIn K (yp95_23 K) "property" = some (.ref (yf95 K) :: (yr95_23 K))), decide (PySem.W.findIn K (.ref (yc24 K)) "inner_points" = some (some (.ref (yp95_24 K)))), decide (PySem.W.specialIn K (.ref (yp95_24 K)) "__get__" = some (some (.builtin "property.__get__"))), decide (PySem.W.takesIn K (.ref (yp95_24 K)) = some true), decide (PySem.W.recIn K (yp95_24 K) "property" = some (.ref (yf95 K) :: (yr95_24 K))), decide (PySem.W.findIn K (.ref (yc23 K)) "total_points" = some (some (.ref (yp96_23 K)))), decide (PySem.W.specialIn K (.ref (yp96_23 K)) "__get__" = some (some (.builtin "property.__get__"))), decide (PySem.W.takesIn K (.ref (yp96_23 K)) = some true), decide (PySem.W.recIn K (yp96_23 K) "property" = some (.ref (yf96 K) :: (yr96_23 K))), decide (PySem.W.findIn K (.ref (yc24 K)) "total_points" = some (some (.ref (yp96_24 K)))), decide (PySem.W.specialIn K (.ref (yp96_24 K)) "__get__" = some (some (.builtin "property.__get__"))), decide (PySem.W.takesIn K (.ref (yp96_24 K)) = some true), decide (PySem.W.recIn K (yp96_24 K) "property" = some (.ref (yf96 K) :: (yr96_24 K)))]
def fbs5 (K : PySem.W.Frag) : List Bool := [decide (PySem.W.subIn K (.ref (yc22 K)) (.ref (yc23 K)) = some false), decide (PySem.W.subIn K (.ref (yc22 K)) (.ref (yc24 K)) = some false), decide (PySem.W.subIn K (.ref (yc23 K)) (.ref (yc22 K)) = some false), decide (PySem.W.subIn K (.ref (yc23 K)) (.ref (yc24 K)) = some false), decide (PySem.W.subIn K (.ref (yc24 K)) (.ref (yc22 K)) = some false), decide (PySem.W.subIn K (.ref (yc24 K)) (.ref (yc23 K)) = some true), decide (PySem.W.findIn K (.ref (yc22 K)) "known" = some none), decide (PySem.W.findIn K (.ref (yc23 K)) "known" = some none), decide (PySem.W.findIn K (.ref (yc24 K)) "known" = some none), decide (PySem.W.findIn K (.ref (yc22 K)) "kept" = some none), decide (PySem.W.findIn K (.ref (yc23 K)) "kept" = some none), decide (PySem.W.findIn K (.ref (yc24 K)) "kept" = some none), decide (PySem.W.findIn K (.ref (yc22 K)) "turns_left" = some none), decide (PySem.W.findIn K (.ref (yc23 K)) "turns_left" = some none), decide (PySem.W.findIn K (.ref (yc24 K)) "turns_left" = some none), decide (PySem.W.findIn K (.ref (yc22 K)) "sides" = some none), decide (PySem.W.findIn K (.ref (yc23 K)) "sides" = some none), decide (PySem.W.findIn K (.ref (yc24 K)) "sides" = some none), PyI.codB K (yf84 K) "edge_steps", PySem.W.keepIn K (.ref (yf84 K))]
def fbs6 (K : PySem.W.Frag) : List Bool := [PyI.codB K (yf85 K) "corner_turns", PySem.W.keepIn K (.ref (yf85 K)), PyI.codB K (yf86 K) "goes_round_once", PySem.W.keepIn K (.ref (yf86 K)), PyI.codB K (yf125 K) "double_area_of", PySem.W.keepIn K (.ref (yf125 K)), PyI.codB K (yf148 K) "area_and_border", PySem.W.keepIn K (.ref (yf148 K)), PyI.codB K (yf70 K) "need_integer", PySem.W.keepIn K (.ref (yf70 K)), PyI.codB K (yf149 K) "need_at_least", PySem.W.keepIn K (.ref (yf149 K)), PyI.codB K (yf3 K) "common_divisor", PySem.W.keepIn K (.ref (yf3 K)), PyI.codB K (yf37 K) "is_point", PySem.W.keepIn K (.ref (yf37 K)), PyI.codB K (yf38 K) "first_wrong_point", PySem.W.keepIn K (.ref (yf38 K)), PyI.codB K (yf39 K) "need_point", PySem.W.keepIn K (.ref (yf39 K))]
def fbs7 (K : PySem.W.Frag) : List Bool := [PyI.codB K (yf42 K) "content", PySem.W.keepIn K (.ref (yf42 K)), PyI.codB K (yf91 K) "Polygon.__init__", PySem.W.keepIn K (.ref (yf91 K)), PyI.codB K (yf92 K) "Polygon.corners", PySem.W.keepIn K (.ref (yf92 K)), PyI.codB K (yf93 K) "Polygon.double_area", PySem.W.keepIn K (.ref (yf93 K)), PyI.codB K (yf95 K) "Polygon.inner_points", PySem.W.keepIn K (.ref (yf95 K)), PyI.codB K (yf96 K) "Polygon.total_points", PySem.W.keepIn K (.ref (yf96 K)), PyI.codB K (yf105 K) "ConvexPolygon.__init__", PySem.W.keepIn K (.ref (yf105 K)), PyI.codB K (yf151 K) "need_polygon", PySem.W.keepIn K (.ref (yf151 K)), PyI.codB K (yf111 K) "need_corners", PySem.W.keepIn K (.ref (yf111 K)), PyI.codB K (yf112 K) "known_of", PySem.W.keepIn K (.ref (yf112 K))]
def fbs8 (K : PySem.W.Frag) : List Bool := [PyI.codB K (yf114 K) "backwards", PySem.W.keepIn K (.ref (yf114 K)), PyI.codB K (yf152 K) "multiple_counts", PySem.W.keepIn K (.ref (yf152 K)), PyI.codB K (yf4 K) "_law_draws", PySem.W.keepIn K (.ref (yf4 K)), PyI.codB K (yf5 K) "_law_draw", PySem.W.keepIn K (.ref (yf5 K)), PyI.codB K (yf63 K) "_law_product", PySem.W.keepIn K (.ref (yf63 K)), PyI.codB K (yf64 K) "_law_numbers", PySem.W.keepIn K (.ref (yf64 K)), PyI.codB K (yf76 K) "_law_image", PySem.W.keepIn K (.ref (yf76 K)), PyI.codB K (yf247 K) "_law_curve", PySem.W.keepIn K (.ref (yf247 K)), PyI.codB K (yf248 K) "law", PySem.W.keepIn K (.ref (yf248 K)), PySem.W.readsIn K (yc23 K) (.type "type"), decide (PySem.W.specialIn K (.ref (yc23 K)) "__getattribute__" = some (some (.builtin "type.__getattribute__")))]
def fbs9 (K : PySem.W.Frag) : List Bool := [PyI.cviB K (yc23 K) "MAX_CORNERS" 60, PySem.W.readsIn K (yc24 K) (.type "type"), decide (PySem.W.specialIn K (.ref (yc24 K)) "__getattribute__" = some (some (.builtin "type.__getattribute__"))), PyI.cviB K (yc24 K) "MAX_CORNERS" 60, PyI.cvrB K (yc23 K) "__init__" (yf91 K), PyI.intB K "LEAST_CORNERS" (3), decide (PySem.W.nsIn K mainGlobals "len" = some none), decide (PySem.W.nsIn K mainGlobals "abs" = some none), decide (PySem.W.nsIn K mainGlobals "max" = some none), decide (PySem.W.nsIn K mainGlobals "min" = some none), decide (PySem.W.nsIn K mainGlobals "int" = some none), decide (PySem.W.nsIn K mainGlobals "range" = some none), decide (PySem.W.nsIn K mainGlobals "isinstance" = some none), decide (PySem.W.nsIn K mainGlobals "bool" = some none), decide (PySem.W.nsIn K mainGlobals "str" = some none), decide (PySem.W.nsIn K mainGlobals "tuple" = some none), decide (PySem.W.nsIn K mainGlobals "list" = some none), decide (PySem.W.nsIn K mainGlobals "dict" = some none), decide (PySem.W.nsIn K mainGlobals "sum" = some none), decide (PySem.W.nsIn K mainGlobals "enumerate" = some none)]
def fbs10 (K : PySem.W.Frag) : List Bool := [decide (PySem.W.nsIn K mainGlobals "zip" = some none), decide (PySem.W.nsIn K mainGlobals "repr" = some none), decide (PySem.W.nsIn K mainGlobals "sorted" = some none), decide (PySem.W.nsIn K mainGlobals "set" = some none), decide (PySem.W.nsIn K mainGlobals "any" = some none), decide (PySem.W.nsIn K mainGlobals "all" = some none), decide (PySem.W.nsIn K mainGlobals "divmod" = some none)]
def fbs (K : PySem.W.Frag) : List Bool := fbs0 K ++ fbs1 K ++ fbs2 K ++ fbs3 K ++ fbs4 K ++ fbs5 K ++ fbs6 K ++ fbs7 K ++ fbs8 K ++ fbs9 K ++ fbs10 K
def x84 : DX := ⟨yf84, "edge_steps", "edge_steps", defArgs (top 3), defBody (top 3), defScope (top 3)⟩
def x85 : DX := ⟨yf85, "corner_turns", "corner_turns", defArgs (top 4), defBody (top 4), defScope (top 4)⟩
def x86 : DX := ⟨yf86, "goes_round_once", "goes_round_once", defArgs (top 5), defBody (top 5), defScope (top 5)⟩
def x125 : DX := ⟨yf125, "double_area_of", "double_area_of", defArgs (top 6), defBody (top 6), defScope (top 6)⟩
def x148 : DX := ⟨yf148, "area_and_border", "area_and_border", defArgs (top 7), defBody (top 7), defScope (top 7)⟩
def x70 : DX := ⟨yf70, "need_integer", "need_integer", defArgs (top 20), defBody (top 20), defScope (top 20)⟩
def x149 : DX := ⟨yf149, "need_at_least", "need_at_least", defArgs (top 21), defBody (top 21), defScope (top 21)⟩
def x3 : DX := ⟨yf3, "common_divisor", "common_divisor", defArgs (top 22), defBody (top 22), defScope (top 22)⟩
def x37 : DX := ⟨yf37, "is_point", "is_point", defArgs (top 24), defBody (top 24), defScope (top 24)⟩
def x38 : DX := ⟨yf38, "first_wrong_point", "first_wrong_point", defArgs (top 25), defBody (top 25), defScope (top 25)⟩
def x39 : DX := ⟨yf39, "need_point", "need_point", defArgs (top 26), defBody (top 26), defScope (top 26)⟩
def x42 : DX := ⟨yf42, "content", "content", defArgs (top 27), defBody (top 27), defScope (top 27)⟩
def x91 : DX := ⟨yf91, "__init__", "Polygon.__init__", defArgs (mem (top 31) 1), defBody (mem (top 31) 1), defScope (mem (top 31) 1)⟩
def x92 : DX := ⟨yf92, "corners", "Polygon.corners", defArgs (mem (top 31) 2), defBody (mem (top 31) 2), defScope (mem (top 31) 2)⟩
def x93 : DX := ⟨yf93, "double_area", "Polygon.double_area", defArgs (mem (top 31) 3), defBody (mem (top 31) 3), defScope (mem (top 31) 3)⟩
def x95 : DX := ⟨yf95, "inner_points", "Polygon.inner_points", defArgs (mem (top 31) 5), defBody (mem (top 31) 5), defScope (mem (top 31) 5)⟩
def x96 : DX := ⟨yf96, "total_points", "Polygon.total_points", defArgs (mem (top 31) 6), defBody (mem (top 31) 6), defScope (mem (top 31) 6)⟩
def x105 : DX := ⟨yf105, "__init__", "ConvexPolygon.__init__", defArgs (mem (top 32) 0), defBody (mem (top 32) 0), defScope (mem (top 32) 0)⟩
def x151 : DX := ⟨yf151, "need_polygon", "need_polygon", defArgs (top 33), defBody (top 33), defScope (top 33)⟩
def x111 : DX := ⟨yf111, "need_corners", "need_corners", defArgs (top 35), defBody (top 35), defScope (top 35)⟩
def x112 : DX := ⟨yf112, "known_of", "known_of", defArgs (top 36), defBody (top 36), defScope (top 36)⟩
def x114 : DX := ⟨yf114, "backwards", "backwards", defArgs (top 38), defBody (top 38), defScope (top 38)⟩
def x152 : DX := ⟨yf152, "multiple_counts", "multiple_counts", defArgs (top 41), defBody (top 41), defScope (top 41)⟩
def x4 : DX := ⟨yf4, "_law_draws", "_law_draws", defArgs (top 43), defBody (top 43), defScope (top 43)⟩
def x5 : DX := ⟨yf5, "_law_draw", "_law_draw", defArgs (top 44), defBody (top 44), defScope (top 44)⟩
def x63 : DX := ⟨yf63, "_law_product", "_law_product", defArgs (top 45), defBody (top 45), defScope (top 45)⟩
def x64 : DX := ⟨yf64, "_law_numbers", "_law_numbers", defArgs (top 46), defBody (top 46), defScope (top 46)⟩
def x76 : DX := ⟨yf76, "_law_image", "_law_image", defArgs (top 47), defBody (top 47), defScope (top 47)⟩
def x247 : DX := ⟨yf247, "_law_curve", "_law_curve", defArgs (top 48), defBody (top 48), defScope (top 48)⟩
def x248 : DX := ⟨yf248, "law", "law", defArgs (top 49), defBody (top 49), defScope (top 49)⟩
def fnl : List DX := [x84, x85, x86, x125, x148, x70, x149, x3, x37, x38, x39, x42, x91, x92, x93, x95, x96, x105, x151, x111, x112, x114, x152, x4, x5, x63, x64, x76, x247, x248]
theorem part0 {K : PySem.W.Frag} (c : SaysX fbs fnl K) : (PyI.nodB K (yf84 K)) = true ∧ (PyI.nodB K (yf85 K)) = true ∧ (PyI.nodB K (yf86 K)) = true ∧ (PyI.nodB K (yf125 K)) = true ∧ (PyI.nodB K (yf148 K)) = true ∧ (PyI.nodB K (yf70 K)) = true ∧ (PyI.nodB K (yf149 K)) = true ∧ (PyI.nodB K (yf3 K)) = true ∧ (PyI.nodB K (yf37 K)) = true ∧ (PyI.nodB K (yf38 K)) = true ∧ (PyI.nodB K (yf39 K)) = true ∧ (PyI.nodB K (yf42 K)) = true ∧ (PyI.nodB K (yf91 K)) = true ∧ (PyI.nodB K (yf92 K)) = true ∧ (PyI.nodB K (yf93 K)) = true ∧ (PyI.nodB K (yf95 K)) = true ∧ (PyI.nodB K (yf96 K)) = true ∧ (PyI.nodB K (yf105 K)) = true ∧ (PyI.nodB K (yf151 K)) = true ∧ (PyI.nodB K (yf111 K)) = true := by
  have h : (fbs0 K).all id = true := List.all_eq_true.mpr fun b hb => c.mem (show b ∈ fbs K from (List.mem_append_left _ (List.mem_append_left _ (List.mem_append_left _ (List.mem_append_left _ (List.mem_append_left _ (List.mem_append_left _ (List.mem_append_left _ (List.mem_append_left _ (List.mem_append_left _ (List.mem_append_left _ hb)))))))))))
  unfold fbs0 at h
  simpa only [List.all_cons, List.all_nil, id, Bool.and_eq_true, and_true] using h
theorem part1 {K : PySem.W.Frag} (c : SaysX fbs fnl K) : (PyI.nodB K (yf112 K)) = true ∧ (PyI.nodB K (yf114 K)) = true ∧ (PyI.nodB K (yf152 K)) = true ∧ (PyI.nodB K (yf4 K)) = true ∧ (PyI.nodB K (yf5 K)) = true ∧ (PyI.nodB K (yf63 K)) = true ∧ (PyI.nodB K (yf64 K)) = true ∧ (PyI.nodB K (yf76 K)) = true ∧ (PyI.nodB K (yf247 K)) = true ∧ (PyI.nodB K (yf248 K)) = true ∧ (decide (PySem.W.nsIn K mainGlobals "Outline" = some (some (.ref (yc22 K))))) = true ∧ (decide (PySem.W.nsIn K mainGlobals "Polygon" = some (some (.ref (yc23 K))))) = true ∧ (decide (PySem.W.nsIn K mainGlobals "ConvexPolygon" = some (some (.ref (yc24 K))))) = true ∧ (decide (PySem.W.nsIn K mainGlobals "edge_steps" = some (some (.ref (yf84 K))))) = true ∧ (decide (PySem.W.nsIn K mainGlobals "corner_turns" = some (some (.ref (yf85 K))))) = true ∧ (decide (PySem.W.nsIn K mainGlobals "goes_round_once" = some (some (.ref (yf86 K))))) = true ∧ (decide (PySem.W.nsIn K mainGlobals "double_area_of" = some (some (.ref (yf125 K))))) = true ∧ (decide (PySem.W.nsIn K mainGlobals "area_and_border" = some (some (.ref (yf148 K))))) = true ∧ (decide (PySem.W.nsIn K mainGlobals "need_integer" = some (some (.ref (yf70 K))))) = true ∧ (decide (PySem.W.nsIn K mainGlobals "need_at_least" = some (some (.ref (yf149 K))))) = true := by
  have h : (fbs1 K).all id = true := List.all_eq_true.mpr fun b hb => c.mem (show b ∈ fbs K from (List.mem_append_left _ (List.mem_append_left _ (List.mem_append_left _ (List.mem_append_left _ (List.mem_append_left _ (List.mem_append_left _ (List.mem_append_left _ (List.mem_append_left _ (List.mem_append_left _ (List.mem_append_right _ hb)))))))))))
  unfold fbs1 at h
  simpa only [List.all_cons, List.all_nil, id, Bool.and_eq_true, and_true] using h
theorem part2 {K : PySem.W.Frag} (c : SaysX fbs fnl K) : (decide (PySem.W.nsIn K mainGlobals "common_divisor" = some (some (.ref (yf3 K))))) = true ∧ (decide (PySem.W.nsIn K mainGlobals "is_point" = some (some (.ref (yf37 K))))) = true ∧ (decide (PySem.W.nsIn K mainGlobals "first_wrong_point" = some (some (.ref (yf38 K))))) = true ∧ (decide (PySem.W.nsIn K mainGlobals "need_point" = some (some (.ref (yf39 K))))) = true ∧ (decide (PySem.W.nsIn K mainGlobals "content" = some (some (.ref (yf42 K))))) = true ∧ (decide (PySem.W.nsIn K mainGlobals "need_polygon" = some (some (.ref (yf151 K))))) = true ∧ (decide (PySem.W.nsIn K mainGlobals "need_corners" = some (some (.ref (yf111 K))))) = true ∧ (decide (PySem.W.nsIn K mainGlobals "known_of" = some (some (.ref (yf112 K))))) = true ∧ (decide (PySem.W.nsIn K mainGlobals "backwards" = some (some (.ref (yf114 K))))) = true ∧ (decide (PySem.W.nsIn K mainGlobals "multiple_counts" = some (some (.ref (yf152 K))))) = true ∧ (decide (PySem.W.nsIn K mainGlobals "_law_draws" = some (some (.ref (yf4 K))))) = true ∧ (decide (PySem.W.nsIn K mainGlobals "_law_draw" = some (some (.ref (yf5 K))))) = true ∧ (decide (PySem.W.nsIn K mainGlobals "_law_product" = some (some (.ref (yf63 K))))) = true ∧ (decide (PySem.W.nsIn K mainGlobals "_law_numbers" = some (some (.ref (yf64 K))))) = true ∧ (decide (PySem.W.nsIn K mainGlobals "_law_image" = some (some (.ref (yf76 K))))) = true ∧ (decide (PySem.W.nsIn K mainGlobals "_law_curve" = some (some (.ref (yf247 K))))) = true ∧ (decide (PySem.W.nsIn K mainGlobals "law" = some (some (.ref (yf248 K))))) = true ∧ (PyI.clB K (yc22 K)) = true ∧ (PyI.clB K (yc23 K)) = true ∧ (PyI.clB K (yc24 K)) = true := by
  have h : (fbs2 K).all id = true := List.all_eq_true.mpr fun b hb => c.mem (show b ∈ fbs K from (List.mem_append_left _ (List.mem_append_left _ (List.mem_append_left _ (List.mem_append_left _ (List.mem_append_left _ (List.mem_append_left _ (List.mem_append_left _ (List.mem_append_left _ (List.mem_append_right _ hb))))))))))
  unfold fbs2 at h
  simpa only [List.all_cons, List.all_nil, id, Bool.and_eq_true, and_true] using h
theorem part3 {K : PySem.W.Frag} (c : SaysX fbs fnl K) : (decide (PySem.W.findIn K (.ref (yc23 K)) "__init__" = some (some (.ref (yf91 K))))) = true ∧ (PySem.W.isFn K (.ref (yf91 K))) = true ∧ (PySem.W.makesIn K (yc23 K)) = true ∧ (PySem.W.keepIn K (.ref (yc23 K))) = true ∧ (decide (PySem.W.findIn K (.ref (yc24 K)) "__init__" = some (some (.ref (yf105 K))))) = true ∧ (PySem.W.isFn K (.ref (yf105 K))) = true ∧ (PySem.W.makesIn K (yc24 K)) = true ∧ (PySem.W.keepIn K (.ref (yc24 K))) = true ∧ (decide (PySem.W.findIn K (.ref (yc23 K)) "corners" = some (some (.ref (yp92_23 K))))) = true ∧ (decide (PySem.W.specialIn K (.ref (yp92_23 K)) "__get__" = some (some (.builtin "property.__get__")))) = true ∧ (decide (PySem.W.takesIn K (.ref (yp92_23 K)) = some true)) = true ∧ (decide (PySem.W.recIn K (yp92_23 K) "property" = some (.ref (yf92 K) :: (yr92_23 K)))) = true ∧ (decide (PySem.W.findIn K (.ref (yc24 K)) "corners" = some (some (.ref (yp92_24 K))))) = true ∧ (decide (PySem.W.specialIn K (.ref (yp92_24 K)) "__get__" = some (some (.builtin "property.__get__")))) = true ∧ (decide (PySem.W.takesIn K (.ref (yp92_24 K)) = some true)) = true ∧ (decide (PySem.W.recIn K (yp92_24 K) "property" = some (.ref (yf92 K) :: (yr92_24 K)))) = true ∧ (decide (PySem.W.findIn K (.ref (yc23 K)) "double_area" = some (some (.ref (yp93_23 K))))) = true ∧ (decide (PySem.W.specialIn K (.ref (yp93_23 K)) "__get__" = some (some (.builtin "property.__get__")))) = true ∧ (decide (PySem.W.takesIn K (.ref (yp93_23 K)) = some true)) = true ∧ (decide (PySem.W.recIn K (yp93_23 K) "property" = some (.ref (yf93 K) :: (yr93_23 K)))) = true := by
  have h : (fbs3 K).all id = true := List.all_eq_true.mpr fun b hb => c.mem (show b ∈ fbs K from (List.mem_append_left _ (List.mem_append_left _ (List.mem_append_left _ (List.mem_append_left _ (List.mem_append_left _ (List.mem_append_left _ (List.mem_append_left _ (List.mem_append_right _ hb)))))))))
  unfold fbs3 at h
  simpa only [List.all_cons, List.all_nil, id, Bool.and_eq_true, and_true] using h
theorem part4 {K : PySem.W.Frag} (c : SaysX fbs fnl K) : (decide (PySem.W.findIn K (.ref (yc24 K)) "double_area" = some (some (.ref (yp93_24 K))))) = true ∧ (decide (PySem.W.specialIn K (.ref (yp93_24 K)) "__get__" = some (some (.builtin "property.__get__")))) = true ∧ (decide (PySem.W.takesIn K (.ref (yp93_24 K)) = some true)) = true ∧ (decide (PySem.W.recIn K (yp93_24 K) "property" = some (.ref (yf93 K) :: (yr93_24 K)))) = true ∧ (decide (PySem.W.findIn K (.ref (yc23 K)) "inner_points" = some (some (.ref (yp95_23 K))))) = true ∧ (decide (PySem.W.specialIn K (.ref (yp95_23 K)) "__get__" = some (some (.builtin "property.__get__")))) = true ∧ (decide (PySem.W.takesIn K (.ref (yp95_23 K)) = some true)) = true ∧ (decide (PySem.W.recIn K (yp95_23 K) "property" = some (.ref (yf95 K) :: (yr95_23 K)))) = true ∧ (decide (PySem.W.findIn K (.ref (yc24 K)) "inner_points" = some (some (.ref (yp95_24 K))))) = true ∧ (decide (PySem.W.specialIn K (.ref (yp95_24 K)) "__get__" = some (some (.builtin "property.__get__")))) = true ∧ (decide (PySem.W.takesIn K (.ref (yp95_24 K)) = some true)) = true ∧ (decide (PySem.W.recIn K (yp95_24 K) "property" = some (.ref (yf95 K) :: (yr95_24 K)))) = true ∧ (decide (PySem.W.findIn K (.ref (yc23 K)) "total_points" = some (some (.ref (yp96_23 K))))) = true ∧ (decide (PySem.W.specialIn K (.ref (yp96_23 K)) "__get__" = some (some (.builtin "property.__get__")))) = true ∧ (decide (PySem.W.takesIn K (.ref (yp96_23 K)) = some true)) = true ∧ (decide (PySem.W.recIn K (yp96_23 K) "property" = some (.ref (yf96 K) :: (yr96_23 K)))) = true ∧ (decide (PySem.W.findIn K (.ref (yc24 K)) "total_points" = some (some (.ref (yp96_24 K))))) = true ∧ (decide (PySem.W.specialIn K (.ref (yp96_24 K)) "__get__" = some (some (.builtin "property.__get__")))) = true ∧ (decide (PySem.W.takesIn K (.ref (yp96_24 K)) = some true)) = true ∧ (decide (PySem.W.recIn K (yp96_24 K) "property" = some (.ref (yf96 K) :: (yr96_24 K)))) = true := by
  have h : (fbs4 K).all id = true := List.all_eq_true.mpr fun b hb => c.mem (show b ∈ fbs K from (List.mem_append_left _ (List.mem_append_left _ (List.mem_append_left _ (List.mem_append_left _ (List.mem_append_left _ (List.mem_append_left _ (List.mem_append_right _ hb))))))))
  unfold fbs4 at h
  simpa only [List.all_cons, List.all_nil, id, Bool.and_eq_true, and_true] using h
theorem part5 {K : PySem.W.Frag} (c : SaysX fbs fnl K) : (decide (PySem.W.subIn K (.ref (yc22 K)) (.ref (yc23 K)) = some false)) = true ∧ (decide (PySem.W.subIn K (.ref (yc22 K)) (.ref (yc24 K)) = some false)) = true ∧ (decide (PySem.W.subIn K (.ref (yc23 K)) (.ref (yc22 K)) = some false)) = true ∧ (decide (PySem.W.subIn K (.ref (yc23 K)) (.ref (yc24 K)) = some false)) = true ∧ (decide (PySem.W.subIn K (.ref (yc24 K)) (.ref (yc22 K)) = some false)) = true ∧ (decide (PySem.W.subIn K (.ref (yc24 K)) (.ref (yc23 K)) = some true)) = true ∧ (decide (PySem.W.findIn K (.ref (yc22 K)) "known" = some none)) = true ∧ (decide (PySem.W.findIn K (.ref (yc23 K)) "known" = some none)) = true ∧ (decide (PySem.W.findIn K (.ref (yc24 K)) "known" = some none)) = true ∧ (decide (PySem.W.findIn K (.ref (yc22 K)) "kept" = some none)) = true ∧ (decide (PySem.W.findIn K (.ref (yc23 K)) "kept" = some none)) = true ∧ (decide (PySem.W.findIn K (.ref (yc24 K)) "kept" = some none)) = true ∧ (decide (PySem.W.findIn K (.ref (yc22 K)) "turns_left" = some none)) = true ∧ (decide (PySem.W.findIn K (.ref (yc23 K)) "turns_left" = some none)) = true ∧ (decide (PySem.W.findIn K (.ref (yc24 K)) "turns_left" = some none)) = true ∧ (decide (PySem.W.findIn K (.ref (yc22 K)) "sides" = some none)) = true ∧ (decide (PySem.W.findIn K (.ref (yc23 K)) "sides" = some none)) = true ∧ (decide (PySem.W.findIn K (.ref (yc24 K)) "sides" = some none)) = true ∧ (PyI.codB K (yf84 K) "edge_steps") = true ∧ (PySem.W.keepIn K (.ref (yf84 K))) = true := by
  have h : (fbs5 K).all id = true := List.all_eq_true.mpr fun b hb => c.mem (show b ∈ fbs K from (List.mem_append_left _ (List.mem_append_left _ (List.mem_append_left _ (List.mem_append_left _ (List.mem_append_left _ (List.mem_append_right _ hb)))))))
  unfold fbs5 at h
  simpa only [List.all_cons, List.all_nil, id, Bool.and_eq_true, and_true] using h
theorem part6 {K : PySem.W.Frag} (c : SaysX fbs fnl K) : (PyI.codB K (yf85 K) "corner_turns") = true ∧ (PySem.W.keepIn K (.ref (yf85 K))) = true ∧ (PyI.codB K (yf86 K) "goes_round_once") = true ∧ (PySem.W.keepIn K (.ref (yf86 K))) = true ∧ (PyI.codB K (yf125 K) "double_area_of") = true ∧ (PySem.W.keepIn K (.ref (yf125 K))) = true ∧ (PyI.codB K (yf148 K) "area_and_border") = true ∧ (PySem.W.keepIn K (.ref (yf148 K))) = true ∧ (PyI.codB K (yf70 K) "need_integer") = true ∧ (PySem.W.keepIn K (.ref (yf70 K))) = true ∧ (PyI.codB K (yf149 K) "need_at_least") = true ∧ (PySem.W.keepIn K (.ref (yf149 K))) = true ∧ (PyI.codB K (yf3 K) "common_divisor") = true ∧ (PySem.W.keepIn K (.ref (yf3 K))) = true ∧ (PyI.codB K (yf37 K) "is_point") = true ∧ (PySem.W.keepIn K (.ref (yf37 K))) = true ∧ (PyI.codB K (yf38 K) "first_wrong_point") = true ∧ (PySem.W.keepIn K (.ref (yf38 K))) = true ∧ (PyI.codB K (yf39 K) "need_point") = true ∧ (PySem.W.keepIn K (.ref (yf39 K))) = true := by
  have h : (fbs6 K).all id = true := List.all_eq_true.mpr fun b hb => c.mem (show b ∈ fbs K from (List.mem_append_left _ (List.mem_append_left _ (List.mem_append_left _ (List.mem_append_left _ (List.mem_append_right _ hb))))))
  unfold fbs6 at h
  simpa only [List.all_cons, List.all_nil, id, Bool.and_eq_true, and_true] using h
theorem part7 {K : PySem.W.Frag} (c : SaysX fbs fnl K) : (PyI.codB K (yf42 K) "content") = true ∧ (PySem.W.keepIn K (.ref (yf42 K))) = true ∧ (PyI.codB K (yf91 K) "Polygon.__init__") = true ∧ (PySem.W.keepIn K (.ref (yf91 K))) = true ∧ (PyI.codB K (yf92 K) "Polygon.corners") = true ∧ (PySem.W.keepIn K (.ref (yf92 K))) = true ∧ (PyI.codB K (yf93 K) "Polygon.double_area") = true ∧ (PySem.W.keepIn K (.ref (yf93 K))) = true ∧ (PyI.codB K (yf95 K) "Polygon.inner_points") = true ∧ (PySem.W.keepIn K (.ref (yf95 K))) = true ∧ (PyI.codB K (yf96 K) "Polygon.total_points") = true ∧ (PySem.W.keepIn K (.ref (yf96 K))) = true ∧ (PyI.codB K (yf105 K) "ConvexPolygon.__init__") = true ∧ (PySem.W.keepIn K (.ref (yf105 K))) = true ∧ (PyI.codB K (yf151 K) "need_polygon") = true ∧ (PySem.W.keepIn K (.ref (yf151 K))) = true ∧ (PyI.codB K (yf111 K) "need_corners") = true ∧ (PySem.W.keepIn K (.ref (yf111 K))) = true ∧ (PyI.codB K (yf112 K) "known_of") = true ∧ (PySem.W.keepIn K (.ref (yf112 K))) = true := by
  have h : (fbs7 K).all id = true := List.all_eq_true.mpr fun b hb => c.mem (show b ∈ fbs K from (List.mem_append_left _ (List.mem_append_left _ (List.mem_append_left _ (List.mem_append_right _ hb)))))
  unfold fbs7 at h
  simpa only [List.all_cons, List.all_nil, id, Bool.and_eq_true, and_true] using h
theorem part8 {K : PySem.W.Frag} (c : SaysX fbs fnl K) : (PyI.codB K (yf114 K) "backwards") = true ∧ (PySem.W.keepIn K (.ref (yf114 K))) = true ∧ (PyI.codB K (yf152 K) "multiple_counts") = true ∧ (PySem.W.keepIn K (.ref (yf152 K))) = true ∧ (PyI.codB K (yf4 K) "_law_draws") = true ∧ (PySem.W.keepIn K (.ref (yf4 K))) = true ∧ (PyI.codB K (yf5 K) "_law_draw") = true ∧ (PySem.W.keepIn K (.ref (yf5 K))) = true ∧ (PyI.codB K (yf63 K) "_law_product") = true ∧ (PySem.W.keepIn K (.ref (yf63 K))) = true ∧ (PyI.codB K (yf64 K) "_law_numbers") = true ∧ (PySem.W.keepIn K (.ref (yf64 K))) = true ∧ (PyI.codB K (yf76 K) "_law_image") = true ∧ (PySem.W.keepIn K (.ref (yf76 K))) = true ∧ (PyI.codB K (yf247 K) "_law_curve") = true ∧ (PySem.W.keepIn K (.ref (yf247 K))) = true ∧ (PyI.codB K (yf248 K) "law") = true ∧ (PySem.W.keepIn K (.ref (yf248 K))) = true ∧ (PySem.W.readsIn K (yc23 K) (.type "type")) = true ∧ (decide (PySem.W.specialIn K (.ref (yc23 K)) "__getattribute__" = some (some (.builtin "type.__getattribute__")))) = true := by
  have h : (fbs8 K).all id = true := List.all_eq_true.mpr fun b hb => c.mem (show b ∈ fbs K from (List.mem_append_left _ (List.mem_append_left _ (List.mem_append_right _ hb))))
  unfold fbs8 at h
  simpa only [List.all_cons, List.all_nil, id, Bool.and_eq_true, and_true] using h
theorem part9 {K : PySem.W.Frag} (c : SaysX fbs fnl K) : (PyI.cviB K (yc23 K) "MAX_CORNERS" 60) = true ∧ (PySem.W.readsIn K (yc24 K) (.type "type")) = true ∧ (decide (PySem.W.specialIn K (.ref (yc24 K)) "__getattribute__" = some (some (.builtin "type.__getattribute__")))) = true ∧ (PyI.cviB K (yc24 K) "MAX_CORNERS" 60) = true ∧ (PyI.cvrB K (yc23 K) "__init__" (yf91 K)) = true ∧ (PyI.intB K "LEAST_CORNERS" (3)) = true ∧ (decide (PySem.W.nsIn K mainGlobals "len" = some none)) = true ∧ (decide (PySem.W.nsIn K mainGlobals "abs" = some none)) = true ∧ (decide (PySem.W.nsIn K mainGlobals "max" = some none)) = true ∧ (decide (PySem.W.nsIn K mainGlobals "min" = some none)) = true ∧ (decide (PySem.W.nsIn K mainGlobals "int" = some none)) = true ∧ (decide (PySem.W.nsIn K mainGlobals "range" = some none)) = true ∧ (decide (PySem.W.nsIn K mainGlobals "isinstance" = some none)) = true ∧ (decide (PySem.W.nsIn K mainGlobals "bool" = some none)) = true ∧ (decide (PySem.W.nsIn K mainGlobals "str" = some none)) = true ∧ (decide (PySem.W.nsIn K mainGlobals "tuple" = some none)) = true ∧ (decide (PySem.W.nsIn K mainGlobals "list" = some none)) = true ∧ (decide (PySem.W.nsIn K mainGlobals "dict" = some none)) = true ∧ (decide (PySem.W.nsIn K mainGlobals "sum" = some none)) = true ∧ (decide (PySem.W.nsIn K mainGlobals "enumerate" = some none)) = true := by
  have h : (fbs9 K).all id = true := List.all_eq_true.mpr fun b hb => c.mem (show b ∈ fbs K from (List.mem_append_left _ (List.mem_append_right _ hb)))
  unfold fbs9 at h
  simpa only [List.all_cons, List.all_nil, id, Bool.and_eq_true, and_true] using h
theorem part10 {K : PySem.W.Frag} (c : SaysX fbs fnl K) : (decide (PySem.W.nsIn K mainGlobals "zip" = some none)) = true ∧ (decide (PySem.W.nsIn K mainGlobals "repr" = some none)) = true ∧ (decide (PySem.W.nsIn K mainGlobals "sorted" = some none)) = true ∧ (decide (PySem.W.nsIn K mainGlobals "set" = some none)) = true ∧ (decide (PySem.W.nsIn K mainGlobals "any" = some none)) = true ∧ (decide (PySem.W.nsIn K mainGlobals "all" = some none)) = true ∧ (decide (PySem.W.nsIn K mainGlobals "divmod" = some none)) = true := by
  have h : (fbs10 K).all id = true := List.all_eq_true.mpr fun b hb => c.mem (show b ∈ fbs K from (List.mem_append_right _ hb))
  unfold fbs10 at h
  simpa only [List.all_cons, List.all_nil, id, Bool.and_eq_true, and_true] using h
set_option maxHeartbeats 0 in
theorem fin {l : PySem.W.OpenLaw} {w : World} {K : PySem.W.Frag} {h : Heap} {mg : Str → Option Value} {fz : Addr} (X : K.In h) (G : h.Ns mainGlobals mg) (hfa : mg "law" = some (.ref fz)) (c : SaysX fbs fnl K) : ∃ fd : FuncData, (∀ (s : Shared) (v : Value), BindsTo s fd ⟨[v], []⟩ [("_law_script", v)]) ∧ ∀ base : Heap, K.In base → base.Ns mainGlobals mg → ∃ S : Sta, S.K = K ∧ GoF l.prog w K mg base (L2.CX l.prog w) 42 fz fd ["_law_script"] (fun vs H Q E => vs.length = 1 ∧ spB S (callD T 20) F248 vs H Q E) := by
  obtain ⟨g_0, g_1, g_2, g_3, g_4, g_5, g_6, g_7, g_8, g_9, g_10, g_11, g_12, g_13, g_14, g_15, g_16, g_17, g_18, g_19⟩ := part0 c
  obtain ⟨g_20, g_21, g_22, g_23, g_24, g_25, g_26, g_27, g_28, g_29, g_30, g_31, g_32, g_33, g_34, g_35, g_36, g_37, g_38, g_39⟩ := part1 c
  obtain ⟨g_40, g_41, g_42, g_43, g_44, g_45, g_46, g_47, g_48, g_49, g_50, g_51, g_52, g_53, g_54, g_55, g_56, g_57, g_58, g_59⟩ := part2 c
  obtain ⟨g_60, g_61, g_62, g_63, g_64, g_65, g_66, g_67, g_68, g_69, g_70, g_71, g_72, g_73, g_74, g_75, g_76, g_77, g_78, g_79⟩ := part3 c
  obtain ⟨g_80, g_81, g_82, g_83, g_84, g_85, g_86, g_87, g_88, g_89, g_90, g_91, g_92, g_93, g_94, g_95, g_96, g_97, g_98, g_99⟩ := part4 c
  obtain ⟨g_100, g_101, g_102, g_103, g_104, g_105, g_106, g_107, g_108, g_109, g_110, g_111, g_112, g_113, g_114, g_115, g_116, g_117, g_118, g_119⟩ := part5 c
  obtain ⟨g_120, g_121, g_122, g_123, g_124, g_125, g_126, g_127, g_128, g_129, g_130, g_131, g_132, g_133, g_134, g_135, g_136, g_137, g_138, g_139⟩ := part6 c
  obtain ⟨g_140, g_141, g_142, g_143, g_144, g_145, g_146, g_147, g_148, g_149, g_150, g_151, g_152, g_153, g_154, g_155, g_156, g_157, g_158, g_159⟩ := part7 c
  obtain ⟨g_160, g_161, g_162, g_163, g_164, g_165, g_166, g_167, g_168, g_169, g_170, g_171, g_172, g_173, g_174, g_175, g_176, g_177, g_178, g_179⟩ := part8 c
  obtain ⟨g_180, g_181, g_182, g_183, g_184, g_185, g_186, g_187, g_188, g_189, g_190, g_191, g_192, g_193, g_194, g_195, g_196, g_197, g_198, g_199⟩ := part9 c
  obtain ⟨g_200, g_201, g_202, g_203, g_204, g_205, g_206⟩ := part10 c
  obtain ⟨oc84, od84, dV84, kV84, dc84, pm84, an84, cd84, ct84, sl84, l84⟩ := c.def_ 0 (d := x84) rfl
  have l84 : K.lookup (yf84 K) = some ⟨oc84, od84, .func (PySem.W.fnOf "edge_steps" "edge_steps" (defArgs (top 3)) (defBody (top 3)) (defScope (top 3)) dV84 kV84 dc84 pm84 an84 cd84 ct84), sl84⟩ := l84
  have e84 : dV84 = _ := PyI.nodB_ok l84 g_0
  subst e84
  obtain ⟨oc85, od85, dV85, kV85, dc85, pm85, an85, cd85, ct85, sl85, l85⟩ := c.def_ 1 (d := x85) rfl
  have l85 : K.lookup (yf85 K) = some ⟨oc85, od85, .func (PySem.W.fnOf "corner_turns" "corner_turns" (defArgs (top 4)) (defBody (top 4)) (defScope (top 4)) dV85 kV85 dc85 pm85 an85 cd85 ct85), sl85⟩ := l85
  have e85 : dV85 = _ := PyI.nodB_ok l85 g_1
  subst e85
  obtain ⟨oc86, od86, dV86, kV86, dc86, pm86, an86, cd86, ct86, sl86, l86⟩ := c.def_ 2 (d := x86) rfl
  have l86 : K.lookup (yf86 K) = some ⟨oc86, od86, .func (PySem.W.fnOf "goes_round_once" "goes_round_once" (defArgs (top 5)) (defBody (top 5)) (defScope (top 5)) dV86 kV86 dc86 pm86 an86 cd86 ct86), sl86⟩ := l86
  have e86 : dV86 = _ := PyI.nodB_ok l86 g_2
  subst e86
  obtain ⟨oc125, od125, dV125, kV125, dc125, pm125, an125, cd125, ct125, sl125, l125⟩ := c.def_ 3 (d := x125) rfl
  have l125 : K.lookup (yf125 K) = some ⟨oc125, od125, .func (PySem.W.fnOf "double_area_of" "double_area_of" (defArgs (top 6)) (defBody (top 6)) (defScope (top 6)) dV125 kV125 dc125 pm125 an125 cd125 ct125), sl125⟩ := l125
  have e125 : dV125 = _ := PyI.nodB_ok l125 g_3
  subst e125
  obtain ⟨oc148, od148, dV148, kV148, dc148, pm148, an148, cd148, ct148, sl148, l148⟩ := c.def_ 4 (d := x148) rfl
  have l148 : K.lookup (yf148 K) = some ⟨oc148, od148, .func (PySem.W.fnOf "area_and_border" "area_and_border" (defArgs (top 7)) (defBody (top 7)) (defScope (top 7)) dV148 kV148 dc148 pm148 an148 cd148 ct148), sl148⟩ := l148
  have e148 : dV148 = _ := PyI.nodB_ok l148 g_4
  subst e148
  obtain ⟨oc70, od70, dV70, kV70, dc70, pm70, an70, cd70, ct70, sl70, l70⟩ := c.def_ 5 (d := x70) rfl
  have l70 : K.lookup (yf70 K) = some ⟨oc70, od70, .func (PySem.W.fnOf "need_integer" "need_integer" (defArgs (top 20)) (defBody (top 20)) (defScope (top 20)) dV70 kV70 dc70 pm70 an70 cd70 ct70), sl70⟩ := l70
  have e70 : dV70 = _ := PyI.nodB_ok l70 g_5
  subst e70
  obtain ⟨oc149, od149, dV149, kV149, dc149, pm149, an149, cd149, ct149, sl149, l149⟩ := c.def_ 6 (d := x149) rfl
  have l149 : K.lookup (yf149 K) = some ⟨oc149, od149, .func (PySem.W.fnOf "need_at_least" "need_at_least" (defArgs (top 21)) (defBody (top 21)) (defScope (top 21)) dV149 kV149 dc149 pm149 an149 cd149 ct149), sl149⟩ := l149
  have e149 : dV149 = _ := PyI.nodB_ok l149 g_6
  subst e149
  obtain ⟨oc3, od3, dV3, kV3, dc3, pm3, an3, cd3, ct3, sl3, l3⟩ := c.def_ 7 (d := x3) rfl
  have l3 : K.lookup (yf3 K) = some ⟨oc3, od3, .func (PySem.W.fnOf "common_divisor" "common_divisor" (defArgs (top 22)) (defBody (top 22)) (defScope (top 22)) dV3 kV3 dc3 pm3 an3 cd3 ct3), sl3⟩ := l3
  have e3 : dV3 = _ := PyI.nodB_ok l3 g_7
  subst e3
  obtain ⟨oc37, od37, dV37, kV37, dc37, pm37, an37, cd37, ct37, sl37, l37⟩ := c.def_ 8 (d := x37) rfl
  have l37 : K.lookup (yf37 K) = some ⟨oc37, od37, .func (PySem.W.fnOf "is_point" "is_point" (defArgs (top 24)) (defBody (top 24)) (defScope (top 24)) dV37 kV37 dc37 pm37 an37 cd37 ct37), sl37⟩ := l37
  have e37 : dV37 = _ := PyI.nodB_ok l37 g_8
  subst e37
  obtain ⟨oc38, od38, dV38, kV38, dc38, pm38, an38, cd38, ct38, sl38, l38⟩ := c.def_ 9 (d := x38) rfl
  have l38 : K.lookup (yf38 K) = some ⟨oc38, od38, .func (PySem.W.fnOf "first_wrong_point" "first_wrong_point" (defArgs (top 25)) (defBody (top 25)) (defScope (top 25)) dV38 kV38 dc38 pm38 an38 cd38 ct38), sl38⟩ := l38
  have e38 : dV38 = _ := PyI.nodB_ok l38 g_9
  subst e38
  obtain ⟨oc39, od39, dV39, kV39, dc39, pm39, an39, cd39, ct39, sl39, l39⟩ := c.def_ 10 (d := x39) rfl
  have l39 : K.lookup (yf39 K) = some ⟨oc39, od39, .func (PySem.W.fnOf "need_point" "need_point" (defArgs (top 26)) (defBody (top 26)) (defScope (top 26)) dV39 kV39 dc39 pm39 an39 cd39 ct39), sl39⟩ := l39
  have e39 : dV39 = _ := PyI.nodB_ok l39 g_10
  subst e39
  obtain ⟨oc42, od42, dV42, kV42, dc42, pm42, an42, cd42, ct42, sl42, l42⟩ := c.def_ 11 (d := x42) rfl
  have l42 : K.lookup (yf42 K) = some ⟨oc42, od42, .func (PySem.W.fnOf "content" "content" (defArgs (top 27)) (defBody (top 27)) (defScope (top 27)) dV42 kV42 dc42 pm42 an42 cd42 ct42), sl42⟩ := l42
  have e42 : dV42 = _ := PyI.nodB_ok l42 g_11
  subst e42
  obtain ⟨oc91, od91, dV91, kV91, dc91, pm91, an91, cd91, ct91, sl91, l91⟩ := c.def_ 12 (d := x91) rfl
  have l91 : K.lookup (yf91 K) = some ⟨oc91, od91, .func (PySem.W.fnOf "__init__" "Polygon.__init__" (defArgs (mem (top 31) 1)) (defBody (mem (top 31) 1)) (defScope (mem (top 31) 1)) dV91 kV91 dc91 pm91 an91 cd91 ct91), sl91⟩ := l91
  have e91 : dV91 = _ := PyI.nodB_ok l91 g_12
  subst e91
  obtain ⟨oc92, od92, dV92, kV92, dc92, pm92, an92, cd92, ct92, sl92, l92⟩ := c.def_ 13 (d := x92) rfl
  have l92 : K.lookup (yf92 K) = some ⟨oc92, od92, .func (PySem.W.fnOf "corners" "Polygon.corners" (defArgs (mem (top 31) 2)) (defBody (mem (top 31) 2)) (defScope (mem (top 31) 2)) dV92 kV92 dc92 pm92 an92 cd92 ct92), sl92⟩ := l92
  have e92 : dV92 = _ := PyI.nodB_ok l92 g_13
  subst e92
  obtain ⟨oc93, od93, dV93, kV93, dc93, pm93, an93, cd93, ct93, sl93, l93⟩ := c.def_ 14 (d := x93) rfl
  have l93 : K.lookup (yf93 K) = some ⟨oc93, od93, .func (PySem.W.fnOf "double_area" "Polygon.double_area" (defArgs (mem (top 31) 3)) (defBody (mem (top 31) 3)) (defScope (mem (top 31) 3)) dV93 kV93 dc93 pm93 an93 cd93 ct93), sl93⟩ := l93
  have e93 : dV93 = _ := PyI.nodB_ok l93 g_14
  subst e93
  obtain ⟨oc95, od95, dV95, kV95, dc95, pm95, an95, cd95, ct95, sl95, l95⟩ := c.def_ 15 (d := x95) rfl
  have l95 : K.lookup (yf95 K) = some ⟨oc95, od95, .func (PySem.W.fnOf "inner_points" "Polygon.inner_points" (defArgs (mem (top 31) 5)) (defBody (mem (top 31) 5)) (defScope (mem (top 31) 5)) dV95 kV95 dc95 pm95 an95 cd95 ct95), sl95⟩ := l95
  have e95 : dV95 = _ := PyI.nodB_ok l95 g_15
  subst e95
  obtain ⟨oc96, od96, dV96, kV96, dc96, pm96, an96, cd96, ct96, sl96, l96⟩ := c.def_ 16 (d := x96) rfl
  have l96 : K.lookup (yf96 K) = some ⟨oc96, od96, .func (PySem.W.fnOf "total_points" "Polygon.total_points" (defArgs (mem (top 31) 6)) (defBody (mem (top 31) 6)) (defScope (mem (top 31) 6)) dV96 kV96 dc96 pm96 an96 cd96 ct96), sl96⟩ := l96
  have e96 : dV96 = _ := PyI.nodB_ok l96 g_16
  subst e96
  obtain ⟨oc105, od105, dV105, kV105, dc105, pm105, an105, cd105, ct105, sl105, l105⟩ := c.def_ 17 (d := x105) rfl
  have l105 : K.lookup (yf105 K) = some ⟨oc105, od105, .func (PySem.W.fnOf "__init__" "ConvexPolygon.__init__" (defArgs (mem (top 32) 0)) (defBody (mem (top 32) 0)) (defScope (mem (top 32) 0)) dV105 kV105 dc105 pm105 an105 cd105 ct105), sl105⟩ := l105
  have e105 : dV105 = _ := PyI.nodB_ok l105 g_17
  subst e105
  obtain ⟨oc151, od151, dV151, kV151, dc151, pm151, an151, cd151, ct151, sl151, l151⟩ := c.def_ 18 (d := x151) rfl
  have l151 : K.lookup (yf151 K) = some ⟨oc151, od151, .func (PySem.W.fnOf "need_polygon" "need_polygon" (defArgs (top 33)) (defBody (top 33)) (defScope (top 33)) dV151 kV151 dc151 pm151 an151 cd151 ct151), sl151⟩ := l151
  have e151 : dV151 = _ := PyI.nodB_ok l151 g_18
  subst e151
  obtain ⟨oc111, od111, dV111, kV111, dc111, pm111, an111, cd111, ct111, sl111, l111⟩ := c.def_ 19 (d := x111) rfl
  have l111 : K.lookup (yf111 K) = some ⟨oc111, od111, .func (PySem.W.fnOf "need_corners" "need_corners" (defArgs (top 35)) (defBody (top 35)) (defScope (top 35)) dV111 kV111 dc111 pm111 an111 cd111 ct111), sl111⟩ := l111
  have e111 : dV111 = _ := PyI.nodB_ok l111 g_19
  subst e111
  obtain ⟨oc112, od112, dV112, kV112, dc112, pm112, an112, cd112, ct112, sl112, l112⟩ := c.def_ 20 (d := x112) rfl
  have l112 : K.lookup (yf112 K) = some ⟨oc112, od112, .func (PySem.W.fnOf "known_of" "known_of" (defArgs (top 36)) (defBody (top 36)) (defScope (top 36)) dV112 kV112 dc112 pm112 an112 cd112 ct112), sl112⟩ := l112
  have e112 : dV112 = _ := PyI.nodB_ok l112 g_20
  subst e112
  obtain ⟨oc114, od114, dV114, kV114, dc114, pm114, an114, cd114, ct114, sl114, l114⟩ := c.def_ 21 (d := x114) rfl
  have l114 : K.lookup (yf114 K) = some ⟨oc114, od114, .func (PySem.W.fnOf "backwards" "backwards" (defArgs (top 38)) (defBody (top 38)) (defScope (top 38)) dV114 kV114 dc114 pm114 an114 cd114 ct114), sl114⟩ := l114
  have e114 : dV114 = _ := PyI.nodB_ok l114 g_21
  subst e114
  obtain ⟨oc152, od152, dV152, kV152, dc152, pm152, an152, cd152, ct152, sl152, l152⟩ := c.def_ 22 (d := x152) rfl
  have l152 : K.lookup (yf152 K) = some ⟨oc152, od152, .func (PySem.W.fnOf "multiple_counts" "multiple_counts" (defArgs (top 41)) (defBody (top 41)) (defScope (top 41)) dV152 kV152 dc152 pm152 an152 cd152 ct152), sl152⟩ := l152
  have e152 : dV152 = _ := PyI.nodB_ok l152 g_22
  subst e152
  obtain ⟨oc4, od4, dV4, kV4, dc4, pm4, an4, cd4, ct4, sl4, l4⟩ := c.def_ 23 (d := x4) rfl
  have l4 : K.lookup (yf4 K) = some ⟨oc4, od4, .func (PySem.W.fnOf "_law_draws" "_law_draws" (defArgs (top 43)) (defBody (top 43)) (defScope (top 43)) dV4 kV4 dc4 pm4 an4 cd4 ct4), sl4⟩ := l4
  have e4 : dV4 = _ := PyI.nodB_ok l4 g_23
  subst e4
  obtain ⟨oc5, od5, dV5, kV5, dc5, pm5, an5, cd5, ct5, sl5, l5⟩ := c.def_ 24 (d := x5) rfl
  have l5 : K.lookup (yf5 K) = some ⟨oc5, od5, .func (PySem.W.fnOf "_law_draw" "_law_draw" (defArgs (top 44)) (defBody (top 44)) (defScope (top 44)) dV5 kV5 dc5 pm5 an5 cd5 ct5), sl5⟩ := l5
  have e5 : dV5 = _ := PyI.nodB_ok l5 g_24
  subst e5
  obtain ⟨oc63, od63, dV63, kV63, dc63, pm63, an63, cd63, ct63, sl63, l63⟩ := c.def_ 25 (d := x63) rfl
  have l63 : K.lookup (yf63 K) = some ⟨oc63, od63, .func (PySem.W.fnOf "_law_product" "_law_product" (defArgs (top 45)) (defBody (top 45)) (defScope (top 45)) dV63 kV63 dc63 pm63 an63 cd63 ct63), sl63⟩ := l63
  have e63 : dV63 = _ := PyI.nodB_ok l63 g_25
  subst e63
  obtain ⟨oc64, od64, dV64, kV64, dc64, pm64, an64, cd64, ct64, sl64, l64⟩ := c.def_ 26 (d := x64) rfl
  have l64 : K.lookup (yf64 K) = some ⟨oc64, od64, .func (PySem.W.fnOf "_law_numbers" "_law_numbers" (defArgs (top 46)) (defBody (top 46)) (defScope (top 46)) dV64 kV64 dc64 pm64 an64 cd64 ct64), sl64⟩ := l64
  have e64 : dV64 = _ := PyI.nodB_ok l64 g_26
  subst e64
  obtain ⟨oc76, od76, dV76, kV76, dc76, pm76, an76, cd76, ct76, sl76, l76⟩ := c.def_ 27 (d := x76) rfl
  have l76 : K.lookup (yf76 K) = some ⟨oc76, od76, .func (PySem.W.fnOf "_law_image" "_law_image" (defArgs (top 47)) (defBody (top 47)) (defScope (top 47)) dV76 kV76 dc76 pm76 an76 cd76 ct76), sl76⟩ := l76
  have e76 : dV76 = _ := PyI.nodB_ok l76 g_27
  subst e76
  obtain ⟨oc247, od247, dV247, kV247, dc247, pm247, an247, cd247, ct247, sl247, l247⟩ := c.def_ 28 (d := x247) rfl
  have l247 : K.lookup (yf247 K) = some ⟨oc247, od247, .func (PySem.W.fnOf "_law_curve" "_law_curve" (defArgs (top 48)) (defBody (top 48)) (defScope (top 48)) dV247 kV247 dc247 pm247 an247 cd247 ct247), sl247⟩ := l247
  have e247 : dV247 = _ := PyI.nodB_ok l247 g_28
  subst e247
  obtain ⟨oc248, od248, dV248, kV248, dc248, pm248, an248, cd248, ct248, sl248, l248⟩ := c.def_ 29 (d := x248) rfl
  have l248 : K.lookup (yf248 K) = some ⟨oc248, od248, .func (PySem.W.fnOf "law" "law" (defArgs (top 49)) (defBody (top 49)) (defScope (top 49)) dV248 kV248 dc248 pm248 an248 cd248 ct248), sl248⟩ := l248
  have e248 : dV248 = _ := PyI.nodB_ok l248 g_29
  subst e248
  obtain ⟨ct_23_MAX_CORNERS, vcv23_MAX_CORNERS⟩ := PyI.cviB_ok (i := 60) g_180
  obtain ⟨ct_24_MAX_CORNERS, vcv24_MAX_CORNERS⟩ := PyI.cviB_ok (i := 60) g_183
  obtain ⟨gt_LEAST_CORNERS, vgg_LEAST_CORNERS⟩ := PyI.intB_ok (i := (3)) g_185
  exact all_mk (f84 := yf84 K) (f85 := yf85 K) (f86 := yf86 K) (f125 := yf125 K) (f148 := yf148 K) (f70 := yf70 K) (f149 := yf149 K) (f3 := yf3 K) (f37 := yf37 K) (f38 := yf38 K) (f39 := yf39 K) (f42 := yf42 K) (f91 := yf91 K) (f92 := yf92 K) (f93 := yf93 K) (f95 := yf95 K) (f96 := yf96 K) (f105 := yf105 K) (f151 := yf151 K) (f111 := yf111 K) (f112 := yf112 K) (f114 := yf114 K) (f152 := yf152 K) (f4 := yf4 K) (f5 := yf5 K) (f63 := yf63 K) (f64 := yf64 K) (f76 := yf76 K) (f247 := yf247 K) (f248 := yf248 K) (c22 := yc22 K) (c23 := yc23 K) (c24 := yc24 K) X G hfa (of_decide_eq_true g_30) (of_decide_eq_true g_31) (of_decide_eq_true g_32) (of_decide_eq_true g_33) (of_decide_eq_true g_34) (of_decide_eq_true g_35) (of_decide_eq_true g_36) (of_decide_eq_true g_37) (of_decide_eq_true g_38) (of_decide_eq_true g_39) (of_decide_eq_true g_40) (of_decide_eq_true g_41) (of_decide_eq_true g_42) (of_decide_eq_true g_43) (of_decide_eq_true g_44) (of_decide_eq_true g_45) (of_decide_eq_true g_46) (of_decide_eq_true g_47) (of_decide_eq_true g_48) (of_decide_eq_true g_49) (of_decide_eq_true g_50) (of_decide_eq_true g_51) (of_decide_eq_true g_52) (of_decide_eq_true g_53) (of_decide_eq_true g_54) (of_decide_eq_true g_55) (of_decide_eq_true g_56) (PyI.clB_ok g_57) (PyI.clB_ok g_58) (PyI.clB_ok g_59) (of_decide_eq_true g_60) g_61 g_62 g_63 (of_decide_eq_true g_64) g_65 g_66 g_67 (of_decide_eq_true g_68) (of_decide_eq_true g_69) (of_decide_eq_true g_70) (of_decide_eq_true g_71) (of_decide_eq_true g_72) (of_decide_eq_true g_73) (of_decide_eq_true g_74) (of_decide_eq_true g_75) (of_decide_eq_true g_76) (of_decide_eq_true g_77) (of_decide_eq_true g_78) (of_decide_eq_true g_79) (of_decide_eq_true g_80) (of_decide_eq_true g_81) (of_decide_eq_true g_82) (of_decide_eq_true g_83) (of_decide_eq_true g_84) (of_decide_eq_true g_85) (of_decide_eq_true g_86) (of_decide_eq_true g_87) (of_decide_eq_true g_88) (of_decide_eq_true g_89) (of_decide_eq_true g_90) (of_decide_eq_true g_91) (of_decide_eq_true g_92) (of_decide_eq_true g_93) (of_decide_eq_true g_94) (of_decide_eq_true g_95) (of_decide_eq_true g_96) (of_decide_eq_true g_97) (of_decide_eq_true g_98) (of_decide_eq_true g_99) (of_decide_eq_true g_100) (of_decide_eq_true g_101) (of_decide_eq_true g_102) (of_decide_eq_true g_103) (of_decide_eq_true g_104) (of_decide_eq_true g_105) (of_decide_eq_true g_106) (of_decide_eq_true g_107) (of_decide_eq_true g_108) (of_decide_eq_true g_109) (of_decide_eq_true g_110) (of_decide_eq_true g_111) (of_decide_eq_true g_112) (of_decide_eq_true g_113) (of_decide_eq_true g_114) (of_decide_eq_true g_115) (of_decide_eq_true g_116) (of_decide_eq_true g_117) l84 (PyI.codB_ok l84 g_118) g_119 l85 (PyI.codB_ok l85 g_120) g_121 l86 (PyI.codB_ok l86 g_122) g_123 l125 (PyI.codB_ok l125 g_124) g_125 l148 (PyI.codB_ok l148 g_126) g_127 l70 (PyI.codB_ok l70 g_128) g_129 l149 (PyI.codB_ok l149 g_130) g_131 l3 (PyI.codB_ok l3 g_132) g_133 l37 (PyI.codB_ok l37 g_134) g_135 l38 (PyI.codB_ok l38 g_136) g_137 l39 (PyI.codB_ok l39 g_138) g_139 l42 (PyI.codB_ok l42 g_140) g_141 l91 (PyI.codB_ok l91 g_142) g_143 l92 (PyI.codB_ok l92 g_144) g_145 l93 (PyI.codB_ok l93 g_146) g_147 l95 (PyI.codB_ok l95 g_148) g_149 l96 (PyI.codB_ok l96 g_150) g_151 l105 (PyI.codB_ok l105 g_152) g_153 l151 (PyI.codB_ok l151 g_154) g_155 l111 (PyI.codB_ok l111 g_156) g_157 l112 (PyI.codB_ok l112 g_158) g_159 l114 (PyI.codB_ok l114 g_160) g_161 l152 (PyI.codB_ok l152 g_162) g_163 l4 (PyI.codB_ok l4 g_164) g_165 l5 (PyI.codB_ok l5 g_166) g_167 l63 (PyI.codB_ok l63 g_168) g_169 l64 (PyI.codB_ok l64 g_170) g_171 l76 (PyI.codB_ok l76 g_172) g_173 l247 (PyI.codB_ok l247 g_174) g_175 l248 (PyI.codB_ok l248 g_176) g_177 g_178 (of_decide_eq_true g_179) vcv23_MAX_CORNERS g_181 (of_decide_eq_true g_182) vcv24_MAX_CORNERS (PyI.cvrB_ok g_184) vgg_LEAST_CORNERS (of_decide_eq_true g_186) (of_decide_eq_true g_187) (of_decide_eq_true g_188) (of_decide_eq_true g_189) (of_decide_eq_true g_190) (of_decide_eq_true g_191) (of_decide_eq_true g_192) (of_decide_eq_true g_193) (of_decide_eq_true g_194) (of_decide_eq_true g_195) (of_decide_eq_true g_196) (of_decide_eq_true g_197) (of_decide_eq_true g_198) (of_decide_eq_true g_199) (of_decide_eq_true g_200) (of_decide_eq_true g_201) (of_decide_eq_true g_202) (of_decide_eq_true g_203) (of_decide_eq_true g_204) (of_decide_eq_true g_205) (of_decide_eq_true g_206)
abbrev hk : PySem.W.Hook := hookX 2000 fbs fnl
def ob (s : PySem.W.SharedT) : AlX := obsXG 2000 fbs fnl (HandSHeadRun.getT s)
theorem ob_eq (s : PySem.W.SharedT) : ob s = hk.obs s.abs := obsXG_eq (HandSHeadRun.getT_eq s)
set_option maxHeartbeats 0 in
theorem run (w : World) : HandSHeadRun.RunEq (PySem.W.OpenLaw.row PySem.Challenge.rw_latticeshapes_k26_whole_large_polygons_c) (PySem.W.view (PySem.W.OpenLaw.row PySem.Challenge.rw_latticeshapes_k26_whole_large_polygons_c).prog [49]) hk ob 20000 loose w := by
  intro os
  kernel_rfl
end KK
open PySem PySem.W PyProof.Rows
set_option maxRecDepth 100000 in
set_option maxHeartbeats 0 in
theorem PySem.Challenge.cw_latticeshapes_k26_whole_large_polygons_c_holds : PySem.Challenge.rw_latticeshapes_k26_whole_large_polygons_c.Holds := by
  w_on; o_law
  refine HandSHeadRun.head_any (r := OpenLaw.row PySem.Challenge.rw_latticeshapes_k26_whole_large_polygons_c) (q := view (OpenLaw.row PySem.Challenge.rw_latticeshapes_k26_whole_large_polygons_c).prog [49]) (H := KK.hk) (ob := KK.ob) (M := 20000) (loose := KK.loose) (d := HandSHeadRun.topDef (OpenLaw.row PySem.Challenge.rw_latticeshapes_k26_whole_large_polygons_c).prog 49) (kwd := []) KK.ob_eq (by kernel_rfl) (fun s => by kernel_rfl) KK.run (by kernel_rfl) (by kernel_rfl) (by kernel_rfl) (by rfl) (by first | assumption | decide +kernel) (by decide +kernel) ⟨rfl, rfl, rfl, rfl, rfl, by decide +kernel⟩ ?hw ?hc
  case hw => w_witness2
  case hc =>
    refine PyI.walk_upE (l := PySem.Challenge.rw_latticeshapes_k26_whole_large_polygons_c) (n := 63) (k := 42) (x := "_law_script") (C := PyI.callD KK.T 20) (G := KK.F248) rfl (by decide) (by kernel_rfl) ⟨rfl, by decide, by decide⟩ ?F KK.law_true
    intro w mg fa h Y G hmg0
    obtain ⟨K, KX, c⟩ := Y
    have hmg : mg ("law" : PySem.Str) = some (.ref fa) := by
      have e : (HandSHeadRun.topDef (OpenLaw.row PySem.Challenge.rw_latticeshapes_k26_whole_large_polygons_c).prog 49).name = ("law" : PySem.Str) := by kernel_rfl
      rw [← e]
      exact hmg0
    exact ⟨K, KX, KK.fin KX G hmg c⟩

