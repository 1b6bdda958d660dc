import PyProof.Rows.All
import Wide.All
import OpenK.AllK
import Wide.FinOn
import HandS.ForMost
import HandS.ForExc
import HandS.TryOnly
import HandS.TryMany
import HandS.Iter
import HandS.Zip
import HandS.Star
import HandS.Wide
import HandS.IsInst
import HandS.TupAny
import HandS.Evl
import HandS.Style
import HandS.Property
import HandS.ClsMeth
import HandS.Defaults
import HandS.MakeKw
import HandS.OwnEq
import HandS.Deep
import HandS.Conv
import HandS.Codes
import HandS.NamedTupSort
import HandS.FStr
import PySem.Challenge.RW_latticeshapes_k07_whole_maps_composed
set_option Elab.async false
set_option linter.all false
set_option maxRecDepth 100000
/-! PyI 1: data, memory, the small language IE, IS and what it means (den). -/
namespace PyI
open PySem

/-- data that is not written any more -/
inductive D where
  | non | bl (b : Bool) | int (i : Int) | str (x : Str)
  | tup (xs : List D) | lst (xs : List D) | frl (xs : List D)
  | emp
  | ins (c : Nat) (fs : List D)
  | cls (c : Nat)
  deriving Inhabited

/-- what a name holds: data, or a cell -/
inductive Val where
  | d (x : D) | rf (n : Nat)
  deriving Inhabited

inductive Cell where
  | lst (xs : List D) | frz (xs : List D) | ins (c : Nat) (fs : List (Nat × D)) | gone
  deriving Inhabited

abbrev Mem := List Cell
abbrev Env := List (Option Val)

/-- an exception: the class, the fields -/
structure Xn where
  c : Nat
  fs : List D

inductive R (α : Type) where
  | ok (a : α) (M : Mem) | ex (x : Xn) (M : Mem)
inductive Fl where
  | nx (env : Env) (M : Mem) | rt (v : Val) (M : Mem) | bk (env : Env) (M : Mem) | ct (env : Env) (M : Mem) | ex (x : Xn) (env : Env) (M : Mem)

abbrev Orc := Nat → List Val → Mem → Option (R Val)

inductive Ty where
  | int | bool | str | tuple | list | dict
  | own (d : Nat) (cs : List Nat)
  deriving DecidableEq
inductive Op where
  | add | sub | mul | fdiv | mod | pow | neg
  | eq | ne | lt | le | gt | ge | is | isnot
  | ix | tup | lst | emp
  | len | abs | max2 | min2 | int | sum
  | isi (t : List Ty)
  | isin | notin
  | repr | fmt
  | slice (lo hi : Bool) | rev
  deriving DecidableEq

/-- does the result hold the arguments themselves? -/
def Op.keeps : Op → Bool
  | .tup | .lst => true
  | _ => false

inductive Tg where
  | nm (i : Nat) | tp (ts : List Tg)

/-- the arguments of a call, as the def takes them: those given, then defaults; or one by one -/
inductive Pl where
  | dfl (ds : List D) | by (ps : List (Nat ⊕ D))

mutual
inductive IE where
  | cst (x : D)
  | var (i : Nat)
  | op (o : Op) (es : IEs)
  | mk (o : Op) (es : IEs)
  | and (a b : IE) | or (a b : IE) | not (a : IE) | ife (c a b : IE)
  | call (f : Nat) (es : IEs)
  | callp (f : Nat) (pl : Pl) (es : IEs)
  | fld (f : Nat) (cs : List (Nat × Nat)) (e : IE)
  | prop (tbl : List (Nat × Nat)) (e : IE)
  | mth (tbl : List (Nat × Nat)) (pl : Pl) (o : IE) (es : IEs)
  | new (c : Nat) (fl : List Nat) (f : Nat) (pl : Pl) (es : IEs)
  | newv (i : Nat) (c : Nat) (fl : List Nat) (f : Nat) (pl : Pl) (es : IEs)
  | eqo (neg : Bool) (tbl : List (Nat × Nat)) (up : List (Nat × Nat)) (a b : IE)
  | eql (neg : Bool) (tbl : List (Nat × Nat)) (a b : IE)
  | rpr (tbl : List (Nat × Nat)) (e : IE)
  | anint (e : IE)
  | fstr (es : IEs)
  | chain (o o' : Op) (a b c : IE)
  | lc (tg : Tg) (own : List Nat) (it : II) (cs : IEs) (e : IE)
inductive IEs where
  | nil | cons (e : IE) (es : IEs)
inductive II where
  | seq (e : IE) | range (es : IEs) | enum (es : IEs) | zip (es : IEs)
end

mutual
inductive IS where
  | set (tg : Tg) (e : IE)
  | par (is : List Nat) (es : IEs)
  | setix (o i e : IE)
  | drop (e : IE)
  | ret (e : IE) | retN | pass | brk | cont
  | ife (c : IE) (a b : ISs)
  | whl (c : IE) (b : ISs)
  | for (tg : Tg) (it : II) (b : ISs)
  | raise (c : Nat) (es : IEs)
  | tryn (b : ISs) (hs : IHs)
  | setf (f : Nat) (o e : IE)
  | setfs (i : Nat) (fs : List Nat) (e : IE)
  | app (o e : IE)
inductive ISs where
  | nil | cons (s : IS) (ss : ISs)
inductive IHs where
  | nil | cons (cs : List Nat) (h : ISs) (r : IHs)
end

/-! ### small parts -/
def bnd {α β : Type} (m : Option (R α)) (k : α → Mem → Option (R β)) : Option (R β) :=
  match m with
  | none => none
  | some (.ex x M) => some (.ex x M)
  | some (.ok a M) => k a M
@[simp] theorem bnd_none {α β : Type} (k : α → Mem → Option (R β)) : bnd none k = none := rfl
@[simp] theorem bnd_ex {α β : Type} (x : Xn) (M : Mem) (k : α → Mem → Option (R β)) : bnd (some (.ex x M)) k = some (.ex x M) := rfl
@[simp] theorem bnd_ok {α β : Type} (a : α) (M : Mem) (k : α → Mem → Option (R β)) : bnd (some (.ok a M)) k = k a M := rfl
theorem bnd_eq {α β : Type} {m : Option (R α)} {k : α → Mem → Option (R β)} {r : R β} (h : bnd m k = some r) :
    (∃ a M, m = some (.ok a M) ∧ k a M = some r) ∨ ∃ x M, m = some (.ex x M) ∧ r = .ex x M := by
  unfold bnd at h
  split at h
  · cases h
  · rename_i x M
    exact .inr ⟨x, M, rfl, (Option.some.inj h).symm⟩
  · rename_i a M
    exact .inl ⟨a, M, rfl, h⟩

def bndS {α : Type} (m : Option (R α)) (env : Env) (k : α → Mem → Option Fl) : Option Fl :=
  match m with
  | none => none
  | some (.ex x M) => some (.ex x env M)
  | some (.ok a M) => k a M
@[simp] theorem bndS_none {α : Type} (env : Env) (k : α → Mem → Option Fl) : bndS none env k = none := rfl
@[simp] theorem bndS_ex {α : Type} (x : Xn) (M : Mem) (env : Env) (k : α → Mem → Option Fl) : bndS (some (.ex x M)) env k = some (.ex x env M) := rfl
@[simp] theorem bndS_ok {α : Type} (a : α) (M : Mem) (env : Env) (k : α → Mem → Option Fl) : bndS (some (.ok a M)) env k = k a M := rfl
theorem bndS_eq {α : Type} {m : Option (R α)} {env : Env} {k : α → Mem → Option Fl} {r : Fl} (h : bndS m env k = some r) :
    (∃ a M, m = some (.ok a M) ∧ k a M = some r) ∨ ∃ x M, m = some (.ex x M) ∧ r = .ex x env M := by
  unfold bndS at h
  split at h
  · cases h
  · rename_i x M
    exact .inr ⟨x, M, rfl, (Option.some.inj h).symm⟩
  · rename_i a M
    exact .inl ⟨a, M, rfl, h⟩

def seqF (m : Option Fl) (k : Env → Mem → Option Fl) : Option Fl :=
  match m with
  | some (.nx env M) => k env M
  | r => r
@[simp] theorem seqF_none (k : Env → Mem → Option Fl) : seqF none k = none := rfl
@[simp] theorem seqF_nx (env : Env) (M : Mem) (k : Env → Mem → Option Fl) : seqF (some (.nx env M)) k = k env M := rfl
@[simp] theorem seqF_rt (v : Val) (M : Mem) (k : Env → Mem → Option Fl) : seqF (some (.rt v M)) k = some (.rt v M) := rfl
@[simp] theorem seqF_bk (env : Env) (M : Mem) (k : Env → Mem → Option Fl) : seqF (some (.bk env M)) k = some (.bk env M) := rfl
@[simp] theorem seqF_ct (env : Env) (M : Mem) (k : Env → Mem → Option Fl) : seqF (some (.ct env M)) k = some (.ct env M) := rfl
@[simp] theorem seqF_ex (x : Xn) (env : Env) (M : Mem) (k : Env → Mem → Option Fl) : seqF (some (.ex x env M)) k = some (.ex x env M) := rfl

/-- a truth -/
def asB (v : Val) : Option Bool :=
  match v with
  | .d (.bl b) => some b
  | _ => none
@[simp] theorem asB_bl (b : Bool) : asB (.d (.bl b)) = some b := rfl
theorem asB_eq {v : Val} {b : Bool} (h : asB v = some b) : v = .d (.bl b) := by
  unfold asB at h
  split at h
  · rw [Option.some.inj h]
  · cases h

/-- to read -/
def Val.see (M : Mem) : Val → Option D
  | .d x => some x
  | .rf n => match M[n]? with
    | some (.lst xs) => some (.lst xs)
    | some (.frz xs) => some (.lst xs)
    | _ => none
@[simp] theorem see_d (M : Mem) (x : D) : Val.see M (.d x) = some x := rfl
def sees (M : Mem) : List Val → Option (List D)
  | [] => some []
  | v :: vs => match v.see M, sees M vs with
    | some x, some xs => some (x :: xs)
    | _, _ => none
@[simp] theorem sees_nil (M : Mem) : sees M [] = some [] := rfl
@[simp] theorem sees_d (M : Mem) (x : D) (vs : List Val) : sees M (.d x :: vs) = (sees M vs).map (x :: ·) := by
  show (match some x, sees M vs with | some x, some xs => some (x :: xs) | _, _ => none) = _
  cases sees M vs <;> rfl
/-- to keep: what is kept is written no more -/
def Val.hold (M : Mem) : Val → Option (D × Mem)
  | .d x => some (x, M)
  | .rf n => match M[n]? with
    | some (.lst xs) => some (.lst xs, M.set n (.frz xs))
    | some (.frz xs) => some (.lst xs, M)
    | _ => none
@[simp] theorem hold_d (M : Mem) (x : D) : Val.hold M (.d x) = some (x, M) := rfl
def holds (M : Mem) : List Val → Option (List D × Mem)
  | [] => some ([], M)
  | v :: vs => match v.hold M with
    | some (x, M1) => match holds M1 vs with
      | some (xs, M2) => some (x :: xs, M2)
      | none => none
    | none => none
@[simp] theorem holds_nil (M : Mem) : holds M [] = some ([], M) := rfl
@[simp] theorem holds_d (M : Mem) (x : D) (vs : List Val) : holds M (.d x :: vs) = (holds M vs).map fun p => (x :: p.1, p.2) := by
  show (match holds M vs with | some (xs, M2) => some (x :: xs, M2) | none => none) = _
  cases holds M vs <;> rfl

/-! ### operations on data -/
def mulOk (i j : Int) : Bool := decide (-(2 ^ 64) < i) && decide (i < 2 ^ 64) || (decide (-(2 ^ 64) < j) && decide (j < 2 ^ 64)) || decide (i.natAbs.log2 + j.natAbs.log2 < 1000000)
def divOk (j : Int) : Bool := decide (0 < j) && decide (j.natAbs.log2 < 9000)
def powOk (i j : Int) : Bool := decide (0 ≤ j) && decide (j ≤ 1000000) && decide (i.natAbs < 2 ^ 64)

mutual
/-- data as the library's data -/
def D.toP : D → Option PyData
  | .non => some .none
  | .bl b => some (.bool b)
  | .int i => some (.int i)
  | .str x => some (.str x)
  | .tup xs => (toPs xs).map .tuple
  | .lst xs => (toPs xs).map .list
  | .frl xs => (toPs xs).map .list
  | .emp => none
  | .ins _ _ => none
  | .cls _ => none
def toPs : List D → Option (List PyData)
  | [] => some []
  | x :: xs => match x.toP, toPs xs with
    | some d, some ds => some (d :: ds)
    | _, _ => none
end
/-- == of plain data -/
def eqD (x y : D) : Option Bool :=
  match x.toP, y.toP with
  | some d, some e => if SeqAt.shaped d = true ∧ SeqAt.shaped e = true then some (PyData.eqv d e) else none
  | _, _ => none
/-- is, for None and the bools -/
def isD : D → D → Option Bool
  | .non, .non => some true
  | .bl a, .bl b => some (a == b)
  | .bl _, .non => some false
  | .int _, .bl _ => some false
  | .int _, .non => some false
  | .str _, .non => some false
  | .tup _, .non => some false
  | .lst _, .non => some false
  | _, _ => none

def tyD : Ty → D → Option Bool
  | .int, .int _ => some true
  | .int, .bl _ => some true
  | .bool, .bl _ => some true
  | .str, .str _ => some true
  | .tuple, .tup _ => some true
  | .list, .lst _ => some true
  | .list, .frl _ => some true
  | .dict, .emp => some true
  | .own _ cs, .ins c _ => some (cs.contains c)
  | .own _ _, .cls _ => none
  | .own _ _, _ => some false
  | _, .ins .. => some false
  | _, .cls _ => none
  | _, _ => some false
def tyAny : List Ty → D → Option Bool
  | [], _ => some false
  | t :: ts, x => match tyD t x with
    | some true => some true
    | some false => tyAny ts x
    | none => none

def cmpI (f : Int → Int → Bool) : List D → Option D
  | [.int i, .int j] => some (.bl (f i j))
  | _ => none
def items : D → Option (List D)
  | .lst xs => some xs
  | .tup xs => some xs
  | .frl xs => some xs
  | _ => none

def intsOf : List D → Option (List Int)
  | [] => some []
  | .int i :: xs => (intsOf xs).map (i :: ·)
  | _ :: _ => none
/-- x in ys: in a list any data, in a tuple flat data -/
def flatD : D → Bool
  | .non | .bl _ | .int _ | .str _ => true
  | _ => false
def inD : D → D → Option Bool
  | x, .lst ys => match x.toP, toPs ys with
    | some d, some ds => if SeqAt.shaped d = true ∧ SeqAt.shaped (.list ds) = true then some (ds.any fun z => PyData.eqv z d) else none
    | _, _ => none
  | x, .tup ys => if flatD x = true ∧ ys.all flatD = true then match x.toP, toPs ys with
      | some d, some ds => some (ds.any fun z => PyData.eqv z d)
      | _, _ => none
    else none
  | _, _ => none
/-- as repr writes it -/
def isSq : D → Bool
  | .tup _ | .lst _ | .frl _ => true
  | _ => false
def showD (x : D) : Option Str := match x.toP with
  | some d => if isSq x = true ∧ d.hasDict = false ∧ d.showable = true ∧ d.depth ≤ 64 ∧ d.shown.length ≤ sizeLine then some d.shown else none
  | none => none
/-- as an f-string writes it -/
def fmtD : D → Option Str
  | .str y => if y.length ≤ sizeLine then some y else none
  | .tup xs => showD (.tup xs)
  | .lst xs => showD (.lst xs)
  | .int i => if i.natAbs.log2 < 1920 then some (toString i) else none
  | _ => none
def boundD : Bool → List D → Option (Option Int × List D)
  | false, xs => some (none, xs)
  | true, .int i :: xs => some (some i, xs)
  | true, _ => none
def cutD (xs : List D) (lo hi : Option Int) : List D := (xs.drop (HT.sIx xs.length 0 lo)).take (HT.sIx xs.length xs.length hi - HT.sIx xs.length 0 lo)
def sliceD (x : D) (lo hi : Option Int) : Option D := match x with
  | .lst xs => some (.lst (cutD xs lo hi))
  | .tup xs => some (.tup (cutD xs lo hi))
  | _ => none
noncomputable def opD : Op → List D → Option D
  | .add, [.int i, .int j] => some (.int (i + j))
  | .add, [.lst xs, .lst ys] => if xs.length + ys.length ≤ sizeLine then some (.lst (xs ++ ys)) else none
  | .add, [.tup xs, .tup ys] => if xs.length + ys.length ≤ sizeLine then some (.tup (xs ++ ys)) else none
  | .add, [.str a, .str b] => if a.length + b.length ≤ sizeLine then some (.str (a ++ b)) else none
  | .sub, [.int i, .int j] => some (.int (i - j))
  | .mul, [.int i, .int j] => if mulOk i j then some (.int (i * j)) else none
  | .mul, [.lst xs, .int k] => @ite _ (-(2 ^ 63) ≤ k ∧ k < 2 ^ 63 ∧ xs.length * k.toNat ≤ sizeLine) (Classical.propDecidable _) (some (.lst (List.replicate k.toNat xs).flatten)) none
  | .fdiv, [.int i, .int j] => if divOk j then some (.int (i / j)) else none
  | .mod, [.int i, .int j] => if 0 < j then some (.int (i % j)) else if j ≠ 0 then some (.int (i.fmod j)) else none
  | .pow, [.int i, .int j] => if powOk i j then some (.int (i ^ j.toNat)) else none
  | .neg, [.int i] => some (.int (-i))
  | .eq, [x, y] => (eqD x y).map .bl
  | .ne, [x, y] => (eqD x y).map fun b => .bl (!b)
  | .lt, [.int i, .int j] => some (.bl (decide (i < j)))
  | .le, [.int i, .int j] => some (.bl (decide (i ≤ j)))
  | .gt, [.int i, .int j] => some (.bl (decide (j < i)))
  | .ge, [.int i, .int j] => some (.bl (decide (j ≤ i)))
  | .is, [x, y] => (isD x y).map .bl
  | .isnot, [x, y] => (isD x y).map fun b => .bl (!b)
  | .ix, [x, .int i] => (items x).bind fun xs => L2.atI xs i
  | .tup, xs => if xs.length ≤ sizeLine then some (.tup xs) else none
  | .lst, xs => if xs.length ≤ sizeLine then some (.lst xs) else none
  | .emp, [] => some .emp
  | .len, [x] => (items x).map fun xs => .int xs.length
  | .abs, [.int i] => some (.int (if i < 0 then -i else i))
  | .max2, [.int i, .int j] => some (.int (if j > i then j else i))
  | .min2, [.int i, .int j] => some (.int (if j < i then j else i))
  | .int, [.int i] => some (.int i)
  | .int, [.bl b] => some (.int (if b then 1 else 0))
  | .sum, [.lst xs] => (intsOf xs).map fun ns => .int ns.sum
  | .isi ts, [x] => (tyAny ts x).map .bl
  | .isin, [x, y] => (inD x y).map .bl
  | .notin, [x, y] => (inD x y).map fun b => .bl (!b)
  | .repr, [.int i] => if i.natAbs.log2 < 1920 then some (.str (toString i)) else none
  | .repr, [x] => (showD x).map .str
  | .fmt, [x] => (fmtD x).map .str
  | .slice lo hi, x :: xs => (boundD lo xs).bind fun p => (boundD hi p.2).bind fun q => if q.2.isEmpty then sliceD x p.1 q.1 else none
  | .rev, [.lst xs] => some (.lst xs.reverse)
  | _, _ => none

/-- an operation on what the arguments evaluated to -/
noncomputable def runOp (o : Op) (vs : List Val) (M : Mem) : Option (R Val) :=
  if o.keeps then match holds M vs with
    | some (xs, M1) => (opD o xs).map fun x => .ok (.d x) M1
    | none => none
  else match sees M vs with
    | some xs => (opD o xs).map fun x => .ok (.d x) M
    | none => none
/-- the same, its list a cell -/
noncomputable def runMk (o : Op) (vs : List Val) (M : Mem) : Option (R Val) :=
  match holds M vs with
  | some (xs, M1) => match opD o xs with
    | some (.lst ys) => some (.ok (.rf M1.length) (M1 ++ [.lst ys]))
    | _ => none
  | none => none

/-! ### fields, arguments, instances -/
/-- what the attribute f holds; cs: at which place of an instance of which class it stands -/
def getF (f : Nat) (cs : List (Nat × Nat)) (v : Val) (M : Mem) : Option D :=
  match v with
  | .d (.ins c fs) => (cs.lookup c).bind fun i => fs[i]?
  | .rf n => match M[n]? with
    | some (.ins c fs) => if (cs.lookup c).isSome then fs.lookup f else none
    | _ => none
  | _ => none
/-- what raises nothing -/
def quiet {α : Type} : Option (R α) → Option (R α)
  | some (.ok a M) => some (.ok a M)
  | _ => none
def clsOf (v : Val) (M : Mem) : Option Nat :=
  match v with
  | .d (.ins c _) => some c
  | .rf n => match M[n]? with
    | some (.ins c _) => some c
    | _ => none
  | _ => none
def byV (vs : List Val) : List (Nat ⊕ D) → Option (List Val)
  | [] => some []
  | .inl i :: r => match vs[i]?, byV vs r with
    | some v, some ws => some (v :: ws)
    | _, _ => none
  | .inr d :: r => (byV vs r).map (.d d :: ·)
def Pl.run (pl : Pl) (vs : List Val) : Option (List Val) :=
  match pl with
  | .dfl ds => some (vs ++ ds.map .d)
  | .by ps => byV vs ps
/-- the attribute f is x from now on -/
def putF : List (Nat × D) → Nat → D → List (Nat × D)
  | [], f, x => [(f, x)]
  | (g, y) :: r, f, x => if g = f then (f, x) :: r else (g, y) :: putF r f x
/-- an instance, its __init__ called, then written no more -/
def endNew (c : Nat) (fl : List Nat) (n : Nat) : Option (R Val) → Option (R Val)
  | some (.ok (.d .non) M2) => match M2[n]? with
    | some (.ins d fs) => if d = c ∧ fs.map (·.1) = fl then some (.ok (.d (.ins c (fs.map (·.2)))) (M2.take n)) else none
    | _ => none
  | some (.ex x M2) => some (.ex x (M2.take n))
  | _ => none
/-- which __eq__ is asked, and whether the right side is the one that answers -/
def isTupV : Val → Bool
  | .d (.tup _) => true
  | _ => false
def eqWho (tbl up : List (Nat × Nat)) (a b : Option Nat) (t : Bool) : Option (Bool × Nat) :=
  match a, b with
  | some c, some d => if (c, d) ∈ up then (tbl.lookup d).map fun g => (true, g) else (tbl.lookup c).map fun g => (false, g)
  | some c, none => if t = true then (tbl.lookup c).map fun g => (false, g) else none
  | none, _ => none
/-- is the value no instance? -/
def plainV (v : Val) (M : Mem) : Bool := (clsOf v M).isNone
def setF (f : Nat) (o v : Val) (M : Mem) : Option Mem :=
  match o, v.hold M with
  | .rf n, some (x, M1) => match M1[n]? with
    | some (.ins c fs) => if fs.length < 900 then some (M1.set n (.ins c (putF fs f x))) else none
    | _ => none
  | _, _ => none
def putFs : List (Nat × D) → List Nat → List D → Option (List (Nat × D))
  | fs, [], [] => some fs
  | fs, f :: r, x :: xs => putFs (putF fs f x) r xs
  | _, _, _ => none
def setFs (fl : List Nat) (o v : Val) (M : Mem) : Option Mem :=
  match o, v with
  | .rf n, .d (.tup xs) => match M[n]? with
    | some (.ins c fs) => if fs.length + fl.length < 900 then (putFs fs fl xs).map fun gs => M.set n (.ins c gs) else none
    | _ => none
  | _, _ => none
/-- a list that is written -/
def isLst (o : Val) (M : Mem) : Bool :=
  match o with
  | .rf n => match M[n]? with
    | some (.lst _) => true
    | _ => false
  | _ => false
def appV (o v : Val) (M : Mem) : Option Mem :=
  match o, v.hold M with
  | .rf n, some (x, M1) => match M1[n]? with
    | some (.lst xs) => if xs.length < sizeLine then some (M1.set n (.lst (xs ++ [x]))) else none
    | _ => none
  | _, _ => none

/-! ### targets -/
mutual
def Tg.bind : Tg → D → Env → Option Env
  | .nm i, x, env => some (env.set i (some (.d x)))
  | .tp ts, .tup xs, env => bindL ts xs env
  | .tp ts, .lst xs, env => bindL ts xs env
  | .tp _, _, _ => none
def bindL : List Tg → List D → Env → Option Env
  | [], [], env => some env
  | t :: ts, x :: xs, env => match t.bind x env with
    | some env1 => bindL ts xs env1
    | none => none
  | _, _, _ => none
end

def wipeE (env : Env) : List Nat → Env
  | [] => env
  | v :: vs => (wipeE env vs).set v none

/-- a turn's end -/
def goOn (r : Option Fl) (k : Env → Mem → Option Fl) : Option Fl :=
  match r with
  | some (.nx env M) => k env M
  | some (.ct env M) => k env M
  | some (.bk env M) => some (.nx env M)
  | r => r
@[simp] theorem goOn_none (k : Env → Mem → Option Fl) : goOn none k = none := rfl
@[simp] theorem goOn_nx (env : Env) (M : Mem) (k : Env → Mem → Option Fl) : goOn (some (.nx env M)) k = k env M := rfl
@[simp] theorem goOn_ct (env : Env) (M : Mem) (k : Env → Mem → Option Fl) : goOn (some (.ct env M)) k = k env M := rfl
@[simp] theorem goOn_bk (env : Env) (M : Mem) (k : Env → Mem → Option Fl) : goOn (some (.bk env M)) k = some (.nx env M) := rfl
@[simp] theorem goOn_rt (v : Val) (M : Mem) (k : Env → Mem → Option Fl) : goOn (some (.rt v M)) k = some (.rt v M) := rfl
@[simp] theorem goOn_ex (x : Xn) (env : Env) (M : Mem) (k : Env → Mem → Option Fl) : goOn (some (.ex x env M)) k = some (.ex x env M) := rfl
/-- a loop over items -/
def forL (tg : Tg) (b : Env → Mem → Option Fl) : List D → Env → Mem → Option Fl
  | [], env, M => some (.nx env M)
  | x :: xs, env, M => match tg.bind x env with
    | none => none
    | some env1 => goOn (b env1 M) fun env2 M2 => forL tg b xs env2 M2
/-- a comprehension over items -/
def lcL (tg : Tg) (env : Env) (c : Env → Mem → Option (R Bool)) (e : Env → Mem → Option (R D)) : List D → List D → Mem → Option (R (List D))
  | [], acc, M => some (.ok acc M)
  | x :: xs, acc, M => match tg.bind x env with
    | none => none
    | some env1 => match c env1 M with
      | some (.ok false M1) => lcL tg env c e xs acc M1
      | some (.ok true M1) => match e env1 M1 with
        | some (.ok y M2) => if acc.length < sizeLine then lcL tg env c e xs (acc ++ [y]) M2 else none
        | _ => none
      | _ => none

def whlF (c : Env → Mem → Option (R Bool)) (b : Env → Mem → Option Fl) : Nat → Env → Mem → Option Fl
  | 0, _, _ => none
  | n + 1, env, M => bndS (c env M) env fun t M1 => if t = true then goOn (b env M1) (fun env2 M2 => whlF c b n env2 M2)
    else some (.nx env M1)

theorem whlF_more {c : Env → Mem → Option (R Bool)} {b : Env → Mem → Option Fl} : ∀ {n : Nat} {env : Env} {M : Mem} {r : Fl}, whlF c b n env M = some r → whlF c b (n + 1) env M = some r
  | 0, _, _, _, h => by cases h
  | n + 1, env, M, r, h => by
    unfold whlF at h ⊢
    rcases bndS_eq h with ⟨t, M1, e, h⟩ | ⟨x, M1, e, h⟩
    · rw [e, bndS_ok]
      cases t with
      | false => exact h
      | true =>
        rw [if_pos rfl] at h ⊢
        cases e2 : b env M1 with
        | none => rw [e2] at h; exact h
        | some f =>
          rw [e2] at h
          cases f with
          | nx e3 m3 => exact whlF_more h
          | ct e3 m3 => exact whlF_more h
          | bk e3 m3 => exact h
          | rt v m3 => exact h
          | ex x e3 m3 => exact h
    · rw [e, bndS_ex, h]
theorem whlF_le {c : Env → Mem → Option (R Bool)} {b : Env → Mem → Option Fl} {n m : Nat} {env : Env} {M : Mem} {r : Fl} (h : whlF c b n env M = some r) (l : n ≤ m) : whlF c b m env M = some r := by
  induction l with
  | refl => exact h
  | step _ ih => exact whlF_more ih
/-- while, to its end (where it has one) -/
noncomputable def whl (c : Env → Mem → Option (R Bool)) (b : Env → Mem → Option Fl) (env : Env) (M : Mem) : Option Fl :=
  open Classical in if h : ∃ r, ∃ n, whlF c b n env M = some r then some (choose h) else none
theorem whl_of {c : Env → Mem → Option (R Bool)} {b : Env → Mem → Option Fl} {n : Nat} {env : Env} {M : Mem} {r : Fl} (h : whlF c b n env M = some r) : whl c b env M = some r := by
  have hx : ∃ r, ∃ n, whlF c b n env M = some r := ⟨r, n, h⟩
  unfold whl
  rw [dif_pos hx]
  obtain ⟨m, hm⟩ := Classical.choose_spec hx
  have h1 := whlF_le h (Nat.le_max_left n m)
  have h2 := whlF_le hm (Nat.le_max_right n m)
  rw [h1] at h2
  exact h2.symm
theorem whl_to {c : Env → Mem → Option (R Bool)} {b : Env → Mem → Option Fl} {env : Env} {M : Mem} {r : Fl} (h : whl c b env M = some r) : ∃ n, whlF c b n env M = some r := by
  unfold whl at h
  split at h
  · rename_i hx
    have e := Option.some.inj h
    have z := Classical.choose_spec hx
    rw [e] at z
    exact z
  · cases h
/-- one turn -/
theorem whl_eq (c : Env → Mem → Option (R Bool)) (b : Env → Mem → Option Fl) (env : Env) (M : Mem) :
    whl c b env M = bndS (c env M) env fun t M1 => if t = true then goOn (b env M1) (whl c b)
    else some (.nx env M1) := by
  have key : ∀ r, whl c b env M = some r ↔ (bndS (c env M) env fun t M1 => if t = true then goOn (b env M1) (whl c b)
    else some (.nx env M1)) = some r := by
    intro r
    constructor
    · intro h
      obtain ⟨n, h⟩ := whl_to h
      cases n with
      | zero => cases h
      | succ n =>
        unfold whlF at h
        rcases bndS_eq h with ⟨t, M1, e, h⟩ | ⟨x, M1, e, h⟩
        · rw [e, bndS_ok]
          cases t with
          | false => exact h
          | true =>
            rw [if_pos rfl] at h ⊢
            cases e2 : b env M1 with
            | none => rw [e2] at h; exact h
            | some f =>
              rw [e2] at h
              cases f with
              | nx e3 m3 => exact whl_of h
              | ct e3 m3 => exact whl_of h
              | bk e3 m3 => exact h
              | rt v m3 => exact h
              | ex x e3 m3 => exact h
        · rw [e, bndS_ex, h]
    · intro h
      rcases bndS_eq h with ⟨t, M1, e, h⟩ | ⟨x, M1, e, h⟩
      · cases t with
        | false => exact whl_of (n := 1) (by unfold whlF; rw [e, bndS_ok]; exact h)
        | true =>
          rw [if_pos rfl] at h
          cases e2 : b env M1 with
          | none => rw [e2] at h; cases h
          | some f =>
            rw [e2] at h
            cases f with
            | nx e3 m3 =>
              obtain ⟨n, hn⟩ := whl_to h
              exact whl_of (n := n + 1) (by unfold whlF; rw [e, bndS_ok, if_pos rfl, e2]; exact hn)
            | ct e3 m3 =>
              obtain ⟨n, hn⟩ := whl_to h
              exact whl_of (n := n + 1) (by unfold whlF; rw [e, bndS_ok, if_pos rfl, e2]; exact hn)
            | bk e3 m3 => exact whl_of (n := 1) (by unfold whlF; rw [e, bndS_ok, if_pos rfl, e2]; exact h)
            | rt v m3 => exact whl_of (n := 1) (by unfold whlF; rw [e, bndS_ok, if_pos rfl, e2]; exact h)
            | ex x e3 m3 => exact whl_of (n := 1) (by unfold whlF; rw [e, bndS_ok, if_pos rfl, e2]; exact h)
      · exact whl_of (n := 1) (by unfold whlF; rw [e, bndS_ex, h])
  cases h1 : whl c b env M with
  | some r => exact ((key r).mp h1).symm
  | none =>
    cases h2 : (bndS (c env M) env fun t M1 => if t = true then goOn (b env M1) (whl c b)
    else some (.nx env M1)) with
    | none => rfl
    | some r => rw [(key r).mpr h2] at h1; cases h1

/-! ### what is walked -/
def rngL (lo hi : Int) : List D := (List.range (hi - lo).toNat).map fun (i : Nat) => .int (lo + i)
def rngOk (i : Int) : Bool := decide (-(2 ^ 62) ≤ i) && decide (i < 2 ^ 62)
def runRange (vs : List Val) (M : Mem) : Option (R (List D)) :=
  match vs with
  | [.d (.int j)] => if rngOk j then some (.ok (rngL 0 j) M) else none
  | [.d (.int i), .d (.int j)] => if rngOk i && rngOk j then some (.ok (rngL i j) M) else none
  | _ => none
def runSeq (v : Val) (M : Mem) : Option (R (List D)) :=
  match v.hold M with
  | some (.lst xs, M1) => some (.ok xs M1)
  | some (.tup xs, M1) => some (.ok xs M1)
  | some (.frl xs, M1) => some (.ok xs M1)
  | _ => none

/-- the places and the items -/
def enumL : Nat → List D → List D
  | _, [] => []
  | k, x :: xs => .tup [.int (k : Nat), x] :: enumL (k + 1) xs
def zipL : List D → List D → List D
  | x :: xs, y :: ys => .tup [x, y] :: zipL xs ys
  | _, _ => []
def runEnum (vs : List Val) (M : Mem) : Option (R (List D)) :=
  match holds M vs with
  | some ([.lst xs], M1) => some (.ok (enumL 0 xs) M1)
  | some ([.frl xs], M1) => some (.ok (enumL 0 xs) M1)
  | _ => none
def runZip (vs : List Val) (M : Mem) : Option (R (List D)) :=
  match holds M vs with
  | some ([.lst xs, .lst ys], M1) => some (.ok (zipL xs ys) M1)
  | some ([.tup xs, .tup ys], M1) => some (.ok (zipL xs ys) M1)
  | _ => none

def runHold (v : Val) (M : Mem) : Option (R D) :=
  match v.hold M with
  | some (x, M1) => some (.ok x M1)
  | none => none
@[simp] theorem runHold_d (x : D) (M : Mem) : runHold (.d x) M = some (.ok x M) := rfl

/-- instances, pair by pair; their own __eq__ says True -/
def allSame (C : Orc) (tbl : List (Nat × Nat)) : List D → List D → Prop
  | [], [] => True
  | x :: xs, y :: ys => (∃ c fs gs g, x = .ins c fs ∧ y = .ins c gs ∧ tbl.lookup c = some g ∧ C g [.d x, .d y] [] = some (.ok (.d (.bl true)) [])) ∧ allSame C tbl xs ys
  | _, _ => False
open Classical in
noncomputable def runEql (C : Orc) (tbl : List (Nat × Nat)) (neg : Bool) (v w : Val) (M : Mem) : Option (R Val) :=
  match v, w with
  | .d (.lst xs), .d (.lst ys) => if allSame C tbl xs ys then some (.ok (.d (.bl (!neg))) M) else none
  | _, _ => none
/-! ### expressions -/
mutual
noncomputable def denE (C : Orc) : IE → Env → Mem → Option (R Val)
  | .cst x, _, M => some (.ok (.d x) M)
  | .var i, env, M => match env[i]? with
    | some (some v) => some (.ok v M)
    | _ => none
  | .op o es, env, M => bnd (denEs C es env M) fun vs M1 => runOp o vs M1
  | .mk o es, env, M => bnd (denEs C es env M) fun vs M1 => runMk o vs M1
  | .and a b, env, M => bnd (denE C a env M) fun v M1 => match asB v with
    | some true => bnd (denE C b env M1) fun w M2 => match asB w with
      | some c => some (.ok (.d (.bl c)) M2)
      | none => none
    | some false => some (.ok (.d (.bl false)) M1)
    | none => none
  | .or a b, env, M => bnd (denE C a env M) fun v M1 => match asB v with
    | some false => bnd (denE C b env M1) fun w M2 => match asB w with
      | some c => some (.ok (.d (.bl c)) M2)
      | none => none
    | some true => some (.ok (.d (.bl true)) M1)
    | none => none
  | .not a, env, M => bnd (denE C a env M) fun v M1 => match asB v with
    | some c => some (.ok (.d (.bl (!c))) M1)
    | none => none
  | .ife c a b, env, M => bnd (denE C c env M) fun v M1 => match asB v with
    | some true => denE C a env M1
    | some false => denE C b env M1
    | none => none
  | .call f es, env, M => bnd (denEs C es env M) fun vs M1 => C f vs M1
  | .callp f pl es, env, M => bnd (denEs C es env M) fun vs M1 => match pl.run vs with
    | some ws => C f ws M1
    | none => none
  | .fld f cs e, env, M => bnd (denE C e env M) fun v M1 => match getF f cs v M1 with
    | some x => some (.ok (.d x) M1)
    | none => none
  | .prop tbl e, env, M => bnd (denE C e env M) fun v M1 => match (clsOf v M1).bind (fun c => tbl.lookup c) with
    | some g => quiet (C g [v] M1)
    | none => none
  | .mth tbl pl o es, env, M => bnd (denE C o env M) fun v M1 => match (clsOf v M1).bind (fun c => tbl.lookup c) with
    | some g => bnd (denEs C es env M1) fun vs M2 => match pl.run vs with
      | some ws => C g (v :: ws) M2
      | none => none
    | none => none
  | .new c fl f pl es, env, M => bnd (denEs C es env M) fun vs M1 => match pl.run vs with
    | some ws => endNew c fl M1.length (C f (.rf M1.length :: ws) (M1 ++ [.ins c []]))
    | none => none
  | .newv i c fl f pl es, env, M => match env[i]? with
    | some (some (.d (.cls d))) => if d = c then bnd (denEs C es env M) fun vs M1 => match pl.run vs with
        | some ws => endNew c fl M1.length (C f (.rf M1.length :: ws) (M1 ++ [.ins c []]))
        | none => none
      else none
    | _ => none
  | .eqo neg tbl up a b, env, M => bnd (denE C a env M) fun v M1 => bnd (denE C b env M1) fun w M2 =>
    match eqWho tbl up (clsOf v M2) (clsOf w M2) (isTupV w) with
    | some (sw, g) => bnd (quiet (C g (if sw then [w, v] else [v, w]) M2)) fun r M3 => match asB r with
      | some c => some (.ok (.d (.bl (if neg then !c else c))) M3)
      | none => none
    | none => if plainV v M2 && plainV w M2 then runOp (if neg then .ne else .eq) [v, w] M2 else none
  | .eql neg tbl a b, env, M => bnd (denE C a env M) fun v M1 => bnd (denE C b env M1) fun w M2 => runEql C tbl neg v w M2
  | .fstr es, env, M => denF C es Str.empty env M
  | .anint e, env, M => bnd (denE C e env M) fun v M1 => match v with
    | .d (.int i) => some (.ok (.d (.int i)) M1)
    | _ => none
  | .rpr tbl e, env, M => bnd (denE C e env M) fun v M1 => match clsOf v M1 with
    | some c => match tbl.lookup c with
      | some g => match quiet (C g [v] M1) with
        | some (.ok (.d (.str y)) M2) => some (.ok (.d (.str y)) M2)
        | _ => none
      | none => none
    | none => runOp .repr [v] M1
  | .chain o o' a b d, env, M => bnd (denE C a env M) fun v M1 => bnd (denE C b env M1) fun w M2 => bnd (runOp o [v, w] M2) fun r M3 => match asB r with
    | some true => bnd (denE C d env M3) fun u M4 => runOp o' [w, u] M4
    | some false => some (.ok (.d (.bl false)) M3)
    | none => none
  | .lc tg own it cs e, env, M => bnd (denI C it env M) fun xs M1 =>
      bnd (lcL tg (wipeE env own) (denT C cs) (fun env M => bnd (denE C e env M) runHold) xs [] M1) fun ys M2 => some (.ok (.d (.lst ys)) M2)
noncomputable def denEs (C : Orc) : IEs → Env → Mem → Option (R (List Val))
  | .nil, _, M => some (.ok [] M)
  | .cons e es, env, M => bnd (denE C e env M) fun v M1 => bnd (denEs C es env M1) fun vs M2 => some (.ok (v :: vs) M2)
/-- texts, one behind the other -/
noncomputable def denF (C : Orc) : IEs → Str → Env → Mem → Option (R Val)
  | .nil, acc, _, M => some (.ok (.d (.str acc)) M)
  | .cons e es, acc, env, M => bnd (denE C e env M) fun v M1 => match v with
    | .d (.str y) => if (acc ++ y).length ≤ sizeLine then denF C es (acc ++ y) env M1 else none
    | _ => none
/-- the tests of a comprehension: none, or one -/
noncomputable def denT (C : Orc) : IEs → Env → Mem → Option (R Bool)
  | .nil, _, M => some (.ok true M)
  | .cons e .nil, env, M => bnd (denE C e env M) fun v M1 => match asB v with
    | some c => some (.ok c M1)
    | none => none
  | .cons _ (.cons _ _), _, _ => none
noncomputable def denI (C : Orc) : II → Env → Mem → Option (R (List D))
  | .seq e, env, M => bnd (denE C e env M) runSeq
  | .range es, env, M => bnd (denEs C es env M) runRange
  | .enum es, env, M => bnd (denEs C es env M) runEnum
  | .zip es, env, M => bnd (denEs C es env M) runZip
end
noncomputable def denB (C : Orc) (c : IE) (env : Env) (M : Mem) : Option (R Bool) := bnd (denE C c env M) fun v M1 => match asB v with
  | some b => some (.ok b M1)
  | none => none

/-! ### statements -/
def parSet : List Nat → List Val → Env → Option Env
  | [], [], env => some env
  | i :: is, v :: vs, env => parSet is vs (env.set i (some v))
  | _, _, _ => none
def setAt (o i v : Val) (M : Mem) : Option Mem :=
  match o, i, v.hold M with
  | .rf n, .d (.int k), some (x, M1) => match M1[n]? with
    | some (.lst xs) => (L2.ixN xs.length k).map fun j => M1.set n (.lst (xs.set j x))
    | _ => none
  | _, _, _ => none
mutual
noncomputable def denS (C : Orc) : IS → Env → Mem → Option Fl
  | .set (.nm i) e, env, M => bndS (denE C e env M) env fun v M1 => some (.nx (env.set i (some v)) M1)
  | .set (.tp ts) e, env, M => bndS (denE C e env M) env fun v M1 => match v.see M1 with
    | some x => match (Tg.tp ts).bind x env with
      | some env1 => some (.nx env1 M1)
      | none => none
    | none => none
  | .par is es, env, M => bndS (denEs C es env M) env fun vs M1 => match parSet is vs env with
    | some env1 => some (.nx env1 M1)
    | none => none
  | .setix o i e, env, M => bndS (denE C e env M) env fun v M1 => bndS (denE C o env M1) env fun ov M2 => bndS (denE C i env M2) env fun iv M3 => match setAt ov iv v M3 with
    | some M4 => some (.nx env M4)
    | none => none
  | .drop e, env, M => bndS (denE C e env M) env fun _ M1 => some (.nx env M1)
  | .ret e, env, M => bndS (denE C e env M) env fun v M1 => some (.rt v M1)
  | .retN, _, M => some (.rt (.d .non) M)
  | .pass, env, M => some (.nx env M)
  | .brk, env, M => some (.bk env M)
  | .cont, env, M => some (.ct env M)
  | .ife c a b, env, M => bndS (denB C c env M) env fun t M1 => if t = true then denSs C a env M1 else denSs C b env M1
  | .whl c b, env, M => whl (denB C c) (denSs C b) env M
  | .for tg it b, env, M => bndS (denI C it env M) env fun xs M1 => forL tg (denSs C b) xs env M1
  | .raise c es, env, M => bndS (denEs C es env M) env fun vs M1 => match holds M1 vs with
    | some (xs, M2) => some (.ex ⟨c, xs⟩ env M2)
    | none => none
  | .tryn b hs, env, M => match denSs C b env M with
    | some (.ex x env1 M1) => denH C hs x env1 M1
    | r => r
  | .setf f o e, env, M => bndS (denE C e env M) env fun v M1 => bndS (denE C o env M1) env fun ov M2 => match setF f ov v M2 with
    | some M3 => some (.nx env M3)
    | none => none
  | .setfs i fl e, env, M => bndS (denE C e env M) env fun v M1 => match env[i]? with
    | some (some ov) => match setFs fl ov v M1 with
      | some M2 => some (.nx env M2)
      | none => none
    | _ => none
  | .app o e, env, M => bndS (denE C o env M) env fun ov M1 => if isLst ov M1 = true then bndS (denE C e env M1) env fun v M2 => match appV ov v M2 with
      | some M3 => some (.nx env M3)
      | none => none
    else none
noncomputable def denSs (C : Orc) : ISs → Env → Mem → Option Fl
  | .nil, env, M => some (.nx env M)
  | .cons s ss, env, M => seqF (denS C s env M) (denSs C ss)
/-- the first clause that takes it -/
noncomputable def denH (C : Orc) : IHs → Xn → Env → Mem → Option Fl
  | .nil, x, env, M => some (.ex x env M)
  | .cons cs h r, x, env, M => if cs.contains x.c = true then denSs C h env M else denH C r x env M
end

/-! ### defs -/
structure Fn where
  np : Nat          -- the parameters (without the starred one)
  star : Bool
  ns : Nat          -- all slots
  body : ISs
  keep : Bool       -- does it hand a list back that its caller writes?
abbrev Tab := Nat → Option Fn

def endRet (keep : Bool) (k : Nat) (v : Val) (M : Mem) : Option (R Val) :=
  match v with
  | .d x => some (.ok (.d x) (M.take k))
  | .rf n => if n < k then some (.ok (.rf n) (M.take k)) else match M[n]? with
    | some (.lst xs) => if keep then some (.ok (.rf k) (M.take k ++ [.lst xs])) else some (.ok (.d (.lst xs)) (M.take k))
    | some (.frz xs) => some (.ok (.d (.lst xs)) (M.take k))
    | _ => none
def endFn (keep : Bool) (k : Nat) : Option Fl → Option (R Val)
  | some (.nx _ M) => some (.ok (.d .non) (M.take k))
  | some (.rt v M) => endRet keep k v M
  | some (.ex x _ M) => some (.ex x (M.take k))
  | _ => none
/-- the arguments, bound -/
def args (F : Fn) (vs : List Val) (M : Mem) : Option (List Val × Mem) :=
  if F.star then if F.np ≤ vs.length then match holds M (vs.drop F.np) with
      | some (xs, M1) => if xs.length ≤ sizeLine then some (vs.take F.np ++ [.d (.tup xs)], M1) else none
      | none => none
    else none
  else if vs.length = F.np then some (vs, M) else none
def startE (n : Nat) (vs : List Val) : Env := vs.map some ++ List.replicate (n - vs.length) none
noncomputable def callD (T : Tab) : Nat → Orc
  | 0, _, _, _ => none
  | l + 1, f, vs, M => match T f with
    | none => none
    | some F => match args F vs M with
      | none => none
      | some (ws, M1) => endFn F.keep M.length (denSs (callD T l) F.body (startE F.ns ws) M1)
end PyI

/-! PyI 2: what stands for what; the readings. -/
namespace PyI
open PySem PySem.Spec PyProof.Rows L2
open Evl (Ex)

/-- what the text's top left: the written part, the classes, their fields -/
structure Sta where
  K : PySem.W.Frag
  has : Nat → Bool
  ih : Nat → Bool
  fa : Nat → Addr
  fd : Nat → FuncData
  fix : Nat → Bool
  ps : Nat → List Str
  fok : Nat → Bool
  ca : Nat → Addr
  cf : Nat → List Nat
  fnm : Nat → Str
def Sta.names (S : Sta) (c : Nat) : List Str := (S.cf c).map S.fnm

mutual
def RepD (S : Sta) (F : Hp) : D → V → Prop
  | .non, v => v = V.non
  | .bl b, v => v = V.bl b
  | .int i, v => v = V.int i
  | .str x, v => v = V.str x
  | .tup xs, v => ∃ a vs, v = V.ref a ∧ SqT S.K F a vs ∧ RepL S F xs vs
  | .lst xs, v => ∃ a vs, v = V.ref a ∧ F a = some (.lst vs) ∧ RepL S F xs vs
  | .frl xs, v => ∃ a vs, v = V.ref a ∧ SqL S.K F a vs ∧ RepL S F xs vs
  | .emp, v => ∃ a, v = V.ref a ∧ F a = some (.dK [])
  | .cls c, v => S.ih c = true ∧ v = V.ref (S.ca c)
  | .ins c xs, v => S.ih c = true ∧ ∃ a dx vs, v = V.ref a ∧ F a = some (.ins (S.ca c) dx ((S.names c).zip vs)) ∧ vs.length = (S.names c).length ∧ RepL S F xs vs
def RepL (S : Sta) (F : Hp) : List D → List V → Prop
  | [], [] => True
  | x :: xs, v :: vs => RepD S F x v ∧ RepL S F xs vs
  | [], _ :: _ => False
  | _ :: _, [] => False
end
variable {S : Sta} {F F' H H' : Hp}

theorem repL_nil {vs : List V} (h : RepL S F [] vs) : vs = [] := by
  cases vs with
  | nil => rfl
  | cons v vs => exact (show False from by simpa only [RepL] using h).elim
theorem repL_cons {x : D} {xs : List D} {vs : List V} (h : RepL S F (x :: xs) vs) : ∃ v ws, vs = v :: ws ∧ RepD S F x v ∧ RepL S F xs ws := by
  cases vs with
  | nil => exact (show False from by simpa only [RepL] using h).elim
  | cons v ws =>
    have h : RepD S F x v ∧ RepL S F xs ws := by simpa only [RepL] using h
    exact ⟨v, ws, rfl, h.1, h.2⟩
theorem repL_mk {x : D} {xs : List D} {v : V} {ws : List V} (h1 : RepD S F x v) (h2 : RepL S F xs ws) : RepL S F (x :: xs) (v :: ws) := by
  show RepL S F (x :: xs) (v :: ws)
  simp only [RepL]
  exact ⟨h1, h2⟩
theorem repL_one {x : D} {v : V} (h : RepD S F x v) : RepL S F [x] [v] := repL_mk h (by simp only [RepL])
theorem repL_emp : RepL S F [] [] := by simp only [RepL]
theorem repL_len : ∀ {xs : List D} {vs : List V}, RepL S F xs vs → xs.length = vs.length
  | [], vs, h => by rw [repL_nil h] <;> rfl
  | x :: xs, vs, h => by
    obtain ⟨v, ws, rfl, _, h2⟩ := repL_cons h
    simp only [List.length_cons, repL_len h2]
theorem repL_get : ∀ {xs : List D} {vs : List V} {i : Nat} {x : D}, RepL S F xs vs → xs[i]? = some x → ∃ v, vs[i]? = some v ∧ RepD S F x v
  | [], vs, i, x, h, e => by simp at e
  | y :: xs, vs, i, x, h, e => by
    obtain ⟨v, ws, rfl, h1, h2⟩ := repL_cons h
    cases i with
    | zero =>
      have e : y = x := by simpa using e
      subst e
      exact ⟨v, rfl, h1⟩
    | succ i => exact repL_get (i := i) h2 (by simpa using e)
theorem repL_app : ∀ {xs ys : List D} {vs ws : List V}, RepL S F xs vs → RepL S F ys ws → RepL S F (xs ++ ys) (vs ++ ws)
  | [], ys, vs, ws, h, k => by rw [repL_nil h]; exact k
  | x :: xs, ys, vs, ws, h, k => by
    obtain ⟨v, us, rfl, h1, h2⟩ := repL_cons h
    exact repL_mk h1 (repL_app h2 k)
theorem repL_set : ∀ {xs : List D} {vs : List V} {x : D} {v : V} (i : Nat), RepL S F xs vs → RepD S F x v → RepL S F (xs.set i x) (vs.set i v)
  | [], vs, x, v, i, h, k => by rw [repL_nil h]; exact repL_emp
  | y :: xs, vs, x, v, i, h, k => by
    obtain ⟨w, us, rfl, h1, h2⟩ := repL_cons h
    cases i with
    | zero => exact repL_mk k h2
    | succ i => exact repL_mk h1 (repL_set i h2 k)
theorem repL_take : ∀ {xs : List D} {vs : List V} (n : Nat), RepL S F xs vs → RepL S F (xs.take n) (vs.take n)
  | _, _, 0, h => by simpa using repL_emp
  | [], vs, n + 1, h => by rw [repL_nil h]; exact repL_emp
  | x :: xs, vs, n + 1, h => by
    obtain ⟨w, us, rfl, h1, h2⟩ := repL_cons h
    exact repL_mk h1 (repL_take n h2)
theorem repL_drop : ∀ {xs : List D} {vs : List V} (n : Nat), RepL S F xs vs → RepL S F (xs.drop n) (vs.drop n)
  | _, _, 0, h => by simpa using h
  | [], vs, n + 1, h => by rw [repL_nil h]; exact repL_emp
  | x :: xs, vs, n + 1, h => by
    obtain ⟨w, us, rfl, h1, h2⟩ := repL_cons h
    exact repL_drop n h2
mutual
theorem repD_ex (e : Ex F F') : ∀ (x : D) {v : V}, RepD S F x v → RepD S F' x v
  | .non, _, h => h
  | .bl _, _, h => h
  | .int _, _, h => h
  | .str _, _, h => h
  | .tup xs, v, h => by
    obtain ⟨a, vs, rfl, h1, h2⟩ : ∃ a vs, v = V.ref a ∧ SqT S.K F a vs ∧ RepL S F xs vs := by simpa only [RepD] using h
    show RepD S F' (.tup xs) (.ref a)
    simp only [RepD]
    exact ⟨a, vs, rfl, Evl.ex_t e h1, repL_ex e xs h2⟩
  | .lst xs, v, h => by
    obtain ⟨a, vs, rfl, h1, h2⟩ : ∃ a vs, v = V.ref a ∧ F a = some (.lst vs) ∧ RepL S F xs vs := by simpa only [RepD] using h
    show RepD S F' (.lst xs) (.ref a)
    simp only [RepD]
    exact ⟨a, vs, rfl, e _ _ h1, repL_ex e xs h2⟩
  | .frl xs, v, h => by
    obtain ⟨a, vs, rfl, h1, h2⟩ : ∃ a vs, v = V.ref a ∧ SqL S.K F a vs ∧ RepL S F xs vs := by simpa only [RepD] using h
    show RepD S F' (.frl xs) (.ref a)
    simp only [RepD]
    exact ⟨a, vs, rfl, Evl.ex_l e h1, repL_ex e xs h2⟩
  | .emp, v, h => by
    obtain ⟨a, rfl, h1⟩ : ∃ a, v = V.ref a ∧ F a = some (.dK []) := by simpa only [RepD] using h
    simp only [RepD]
    exact ⟨a, rfl, e _ _ h1⟩
  | .cls c, v, h => h
  | .ins c xs, v, h => by
    obtain ⟨hc, a, dx, vs, rfl, h1, hl, h2⟩ : S.ih c = true ∧ ∃ a dx vs, v = V.ref a ∧ F a = some (.ins (S.ca c) dx ((S.names c).zip vs)) ∧ vs.length = (S.names c).length ∧ RepL S F xs vs := by simpa only [RepD] using h
    simp only [RepD]
    exact ⟨hc, a, dx, vs, rfl, e _ _ h1, hl, repL_ex e xs h2⟩
theorem repL_ex (e : Ex F F') : ∀ (xs : List D) {vs : List V}, RepL S F xs vs → RepL S F' xs vs
  | [], vs, h => by rw [repL_nil h]; exact repL_emp
  | x :: xs, vs, h => by
    obtain ⟨v, ws, rfl, h1, h2⟩ := repL_cons h
    exact repL_mk (repD_ex e x h1) (repL_ex e xs h2)
end
theorem repD_tup {xs : List D} {v : V} (h : RepD S F (.tup xs) v) : ∃ a vs, v = V.ref a ∧ SqT S.K F a vs ∧ RepL S F xs vs := by simpa only [RepD] using h
theorem repD_lst {xs : List D} {v : V} (h : RepD S F (.lst xs) v) : ∃ a vs, v = V.ref a ∧ F a = some (.lst vs) ∧ RepL S F xs vs := by simpa only [RepD] using h
theorem repD_frl {xs : List D} {v : V} (h : RepD S F (.frl xs) v) : ∃ a vs, v = V.ref a ∧ SqL S.K F a vs ∧ RepL S F xs vs := by simpa only [RepD] using h
theorem repD_int {i : Int} {v : V} (h : RepD S F (.int i) v) : v = V.int i := by simpa only [RepD] using h
theorem repD_bl {i : Bool} {v : V} (h : RepD S F (.bl i) v) : v = V.bl i := by simpa only [RepD] using h
theorem repD_str {i : Str} {v : V} (h : RepD S F (.str i) v) : v = V.str i := by simpa only [RepD] using h
theorem repD_non {v : V} (h : RepD S F .non v) : v = V.non := by simpa only [RepD] using h
theorem repD_emp {v : V} (h : RepD S F .emp v) : ∃ a, v = V.ref a ∧ F a = some (.dK []) := by simpa only [RepD] using h
theorem repD_ins {c : Nat} {xs : List D} {v : V} (h : RepD S F (.ins c xs) v) : S.ih c = true ∧ ∃ a dx vs, v = V.ref a ∧ F a = some (.ins (S.ca c) dx ((S.names c).zip vs)) ∧ vs.length = (S.names c).length ∧ RepL S F xs vs := by simpa only [RepD] using h
theorem repD_cls {c : Nat} {v : V} (h : RepD S F (.cls c) v) : S.ih c = true ∧ v = V.ref (S.ca c) := by simpa only [RepD] using h
theorem rep_cls {c : Nat} (h : S.ih c = true) : RepD S F (.cls c) (V.ref (S.ca c)) := by
  simp only [RepD]
  exact ⟨h, trivial⟩
theorem rep_ins {c : Nat} {xs : List D} {a dx : Addr} {vs : List V} (hc : S.ih c = true) (h : F a = some (.ins (S.ca c) dx ((S.names c).zip vs))) (hl : vs.length = (S.names c).length) (k : RepL S F xs vs) : RepD S F (.ins c xs) (.ref a) := by
  simp only [RepD]
  exact ⟨hc, a, dx, vs, rfl, h, hl, k⟩
theorem rep_int {i : Int} : RepD S F (.int i) (V.int i) := by simp only [RepD]
theorem rep_bl {i : Bool} : RepD S F (.bl i) (V.bl i) := by simp only [RepD]
theorem rep_str {i : Str} : RepD S F (.str i) (V.str i) := by simp only [RepD]
theorem rep_non : RepD S F .non V.non := by simp only [RepD]
theorem rep_tup {xs : List D} {a : Addr} {vs : List V} (h : SqT S.K F a vs) (k : RepL S F xs vs) : RepD S F (.tup xs) (.ref a) := by
  simp only [RepD]
  exact ⟨a, vs, rfl, h, k⟩
theorem rep_lst {xs : List D} {a : Addr} {vs : List V} (h : F a = some (.lst vs)) (k : RepL S F xs vs) : RepD S F (.lst xs) (.ref a) := by
  simp only [RepD]
  exact ⟨a, vs, rfl, h, k⟩
theorem rep_frl {xs : List D} {a : Addr} {vs : List V} (h : SqL S.K F a vs) (k : RepL S F xs vs) : RepD S F (.frl xs) (.ref a) := by
  simp only [RepD]
  exact ⟨a, vs, rfl, h, k⟩
theorem rep_emp {a : Addr} (h : F a = some (.dK [])) : RepD S F .emp (.ref a) := by
  simp only [RepD]
  exact ⟨a, rfl, h⟩

/-! ### names and cells -/
def RepV (S : Sta) (F : Hp) (μ : Nat → Addr) (m : Nat) : Val → V → Prop
  | .d x, w => RepD S F x w
  | .rf n, w => n < m ∧ w = V.ref (μ n)
def RepVs (S : Sta) (F : Hp) (μ : Nat → Addr) (m : Nat) : List Val → List V → Prop
  | [], [] => True
  | x :: xs, v :: vs => RepV S F μ m x v ∧ RepVs S F μ m xs vs
  | [], _ :: _ => False
  | _ :: _, [] => False
def CellR (S : Sta) (F H : Hp) (a : Addr) : Cell → Prop
  | .lst xs => F a = none ∧ ∃ vs, H a = some (.lst vs) ∧ RepL S F xs vs
  | .frz xs => ∃ vs, F a = some (.lst vs) ∧ RepL S F xs vs
  | .ins c fs => S.ih c = true ∧ (∀ p ∈ fs, S.fok p.1 = true) ∧ F a = none ∧ ∃ dx vs, H a = some (.ins (S.ca c) dx ((fs.map fun p => S.fnm p.1).zip vs)) ∧ vs.length = fs.length ∧ RepL S F (fs.map (·.2)) vs
  | .gone => ∃ o, H a = some o
/-- the cells stand at μ; the rest of what is known is F -/
structure MemR (S : Sta) (μ : Nat → Addr) (F : Hp) (M : Mem) (H : Hp) : Prop where
  sub : Ex F H
  cell : ∀ n c, M[n]? = some c → CellR S F H (μ n) c
  inj : ∀ n m, n < M.length → m < M.length → μ n = μ m → n = m
structure EnvR (S : Sta) (μ : Nat → Addr) (F : Hp) (m : Nat) (env : Env) (σ : List (Option V)) : Prop where
  len : env.length = σ.length
  at_ : ∀ (i : Nat) (v : Val), env[i]? = some (some v) → ∃ w : V, σ[i]? = some (some w) ∧ RepV S F μ m v w

/-- from then on: F grew, the cells stand where they stood, new ones are new, nothing else was written -/
structure Aft (μ : Nat → Addr) (F H : Hp) (k : Nat) (μ' : Nat → Addr) (F' H' : Hp) (k' : Nat) : Prop where
  f : Ex F F'
  le : k ≤ k'
  mu : ∀ n, n < k → μ' n = μ n
  fr : ∀ a o, H a = some o → (∀ n, n < k → a ≠ μ n) → H' a = some o
  dom : ∀ a o, H a = some o → ∃ o', H' a = some o'
  new : ∀ n, k ≤ n → n < k' → H (μ' n) = none
  fn : ∀ a o, F' a = some o → F a = some o ∨ H a = none ∨ ∃ n, n < k' ∧ a = μ' n
section
variable {μ μ1 μ2 : Nat → Addr} {F1 F2 H1 H2 : Hp} {k k1 k2 : Nat}
theorem Aft.refl : Aft μ F H k μ F H k := ⟨Evl.Ex.refl F, Nat.le_refl _, fun _ _ => rfl, fun _ _ h _ => h, fun _ o h => ⟨o, h⟩, fun n h1 h2 => by omega, fun _ _ h => .inl h⟩
theorem Aft.trans (a : Aft μ F H k μ1 F1 H1 k1) (b : Aft μ1 F1 H1 k1 μ2 F2 H2 k2) : Aft μ F H k μ2 F2 H2 k2 := by
  refine ⟨a.f.trans b.f, Nat.le_trans a.le b.le, fun n h => (b.mu n (Nat.lt_of_lt_of_le h a.le)).trans (a.mu n h), fun x o h q => ?_, fun x o h => ?_, fun n h1 h2 => ?_, fun x o h => ?_⟩
  · refine b.fr x o (a.fr x o h q) fun n hn e => ?_
    by_cases hk : n < k
    · rw [a.mu n hk] at e
      exact q n hk e
    · have z := a.new n (by omega) hn
      rw [← e, h] at z
      cases z
  · obtain ⟨o1, h1⟩ := a.dom x o h
    exact b.dom x o1 h1
  · by_cases hk : n < k1
    · rw [b.mu n hk]
      exact a.new n h1 hk
    · have z := b.new n (by omega) h2
      cases e : H (μ2 n) with
      | none => rfl
      | some o =>
        obtain ⟨o1, h3⟩ := a.dom _ o e
        rw [z] at h3
        cases h3
  · rcases b.fn x o h with h | h | h
    · rcases a.fn x o h with h | h | ⟨n, h1, h2⟩
      · exact .inl h
      · exact .inr (.inl h)
      · exact .inr (.inr ⟨n, Nat.lt_of_lt_of_le h1 b.le, by rw [b.mu n h1]; exact h2⟩)
    · refine .inr (.inl ?_)
      cases e : H x with
      | none => rfl
      | some o =>
        obtain ⟨o1, h3⟩ := a.dom _ o e
        rw [h] at h3
        cases h3
    · exact .inr (.inr h)
theorem Aft.cut (a : Aft μ F H k μ1 F1 H1 k1) {j : Nat} (h1 : k ≤ j) (h2 : j ≤ k1) : Aft μ F H k μ1 F1 H1 j := ⟨a.f, h1, a.mu, a.fr, a.dom, fun n q1 q2 => a.new n q1 (by omega), fun x o h => by
  rcases a.fn x o h with h | h | ⟨n, q1, q2⟩
  · exact .inl h
  · exact .inr (.inl h)
  · by_cases hn : n < j
    · exact .inr (.inr ⟨n, hn, q2⟩)
    · exact .inr (.inl (by rw [q2]; exact a.new n (by omega) q1))⟩
theorem RepV.aft {v : Val} {w : V} (h : RepV S F μ k v w) (a : Aft μ F H k μ1 F1 H1 k1) : RepV S F1 μ1 k1 v w := by
  cases v with
  | d x => exact repD_ex a.f x h
  | rf n =>
    obtain ⟨h1, h2⟩ := (show n < k ∧ w = V.ref (μ n) from h)
    exact ⟨Nat.lt_of_lt_of_le h1 a.le, by rw [h2, a.mu n h1]⟩
theorem RepVs.nil {vs : List V} (h : RepVs S F μ k [] vs) : vs = [] := by
  cases vs with
  | nil => rfl
  | cons v vs => exact (show False from h).elim
theorem RepVs.cons {x : Val} {xs : List Val} {vs : List V} (h : RepVs S F μ k (x :: xs) vs) : ∃ v ws, vs = v :: ws ∧ RepV S F μ k x v ∧ RepVs S F μ k xs ws := by
  cases vs with
  | nil => exact (show False from h).elim
  | cons v ws => exact ⟨v, ws, rfl, h.1, h.2⟩
theorem RepVs.len : ∀ {xs : List Val} {vs : List V}, RepVs S F μ k xs vs → xs.length = vs.length
  | [], vs, h => by rw [h.nil] <;> rfl
  | x :: xs, vs, h => by
    obtain ⟨v, ws, rfl, _, h2⟩ := h.cons
    simp only [List.length_cons, h2.len]
theorem RepVs.aft : ∀ {xs : List Val} {vs : List V}, RepVs S F μ k xs vs → Aft μ F H k μ1 F1 H1 k1 → RepVs S F1 μ1 k1 xs vs
  | [], vs, h, a => by rw [h.nil]; trivial
  | x :: xs, vs, h, a => by
    obtain ⟨v, ws, rfl, h1, h2⟩ := h.cons
    exact ⟨h1.aft a, h2.aft a⟩
theorem RepVs.take : ∀ {xs : List Val} {vs : List V} (n : Nat), RepVs S F μ k xs vs → RepVs S F μ k (xs.take n) (vs.take n)
  | _, _, 0, _ => by simp only [List.take_zero]; trivial
  | [], vs, n + 1, h => by rw [h.nil]; trivial
  | x :: xs, vs, n + 1, h => by
    obtain ⟨v, ws, rfl, h1, h2⟩ := h.cons
    exact ⟨h1, h2.take n⟩
theorem RepVs.drop : ∀ {xs : List Val} {vs : List V} (n : Nat), RepVs S F μ k xs vs → RepVs S F μ k (xs.drop n) (vs.drop n)
  | _, _, 0, h => by simpa using h
  | [], vs, n + 1, h => by rw [h.nil]; trivial
  | x :: xs, vs, n + 1, h => by
    obtain ⟨v, ws, rfl, h1, h2⟩ := h.cons
    exact h2.drop n
theorem RepVs.append : ∀ {xs ys : List Val} {vs ws : List V}, RepVs S F μ k xs vs → RepVs S F μ k ys ws → RepVs S F μ k (xs ++ ys) (vs ++ ws)
  | [], ys, vs, ws, h, g => by rw [h.nil]; exact g
  | x :: xs, ys, vs, ws, h, g => by
    obtain ⟨v, us, rfl, h1, h2⟩ := h.cons
    exact ⟨h1, h2.append g⟩
theorem EnvR.aft {env : Env} {σ : List (Option V)} (h : EnvR S μ F k env σ) (a : Aft μ F H k μ1 F1 H1 k1) : EnvR S μ1 F1 k1 env σ :=
  ⟨h.len, fun i v e => let ⟨w, h1, h2⟩ := h.at_ i v e; ⟨w, h1, h2.aft a⟩⟩
theorem EnvR.set {env : Env} {σ : List (Option V)} (h : EnvR S μ F k env σ) (i : Nat) {v : Val} {w : V} (r : RepV S F μ k v w) : EnvR S μ F k (env.set i (some v)) (σ.set i (some w)) := by
  refine ⟨by simp only [List.length_set, h.len], fun j u e => ?_⟩
  by_cases hj : i = j
  · subst hj
    by_cases hl : i < env.length
    · rw [List.getElem?_set_self hl] at e
      have e := Option.some.inj (Option.some.inj e)
      subst e
      exact ⟨w, List.getElem?_set_self (by rw [← h.len]; exact hl), r⟩
    · rw [List.getElem?_eq_none (by simpa using hl)] at e
      cases e
  · rw [List.getElem?_set_ne hj] at e ⊢
    exact h.at_ j u e
theorem EnvR.unset {env : Env} {σ : List (Option V)} (h : EnvR S μ F k env σ) (i : Nat) : EnvR S μ F k (env.set i none) (σ.set i none) := by
  refine ⟨by simp only [List.length_set, h.len], fun j u e => ?_⟩
  by_cases hj : i = j
  · subst hj
    by_cases hl : i < env.length
    · rw [List.getElem?_set_self hl] at e
      cases e
    · rw [List.getElem?_eq_none (by simpa using hl)] at e
      cases e
  · rw [List.getElem?_set_ne hj] at e ⊢
    exact h.at_ j u e
theorem EnvR.wipe {env : Env} {σ : List (Option V)} (h : EnvR S μ F k env σ) : ∀ own : List Nat, EnvR S μ F k (wipeE env own) (L2.wipe σ own)
  | [] => h
  | v :: vs => (EnvR.wipe h vs).unset v
end

/-- only new things came -/
structure Grow (F F' H H' : Hp) : Prop where
  f : Ex F F'
  h : Ex H H'
  new : ∀ a o, F' a = some o → F a = some o ∨ H a = none
  sub : Ex F' H'
theorem Grow.same {F H : Hp} (s : Ex F H) : Grow F F H H := ⟨Evl.Ex.refl F, Evl.Ex.refl H, fun _ _ h => .inl h, s⟩
theorem Grow.one {F H : Hp} (s : Ex F H) {p : Addr} (o : HO) (hp : H p = none) : Grow F (upd F p o) H (upd H p o) := by
  have fp : F p = Option.none := Evl.fresh_back s hp
  refine ⟨Evl.Ex.new fp, Evl.Ex.new hp, fun a u e => ?_, fun a u e => ?_⟩
  · by_cases h : a = p
    · subst h; exact .inr hp
    · rw [upd_ne h] at e; exact .inl e
  · by_cases h : a = p
    · subst h; rw [upd_same] at e ⊢; exact e
    · rw [upd_ne h] at e ⊢; exact s a u e
theorem CellR.grow {a : Addr} {c : Cell} (h : CellR S F H a c) (g : Grow F F' H H') : CellR S F' H' a c := by
  have nn : F a = none → ∀ o, H a = some o → F' a = none := fun hf o ho => by
    cases e : F' a with
    | none => rfl
    | some u =>
      rcases g.new a u e with z | z
      · rw [hf] at z; cases z
      · rw [ho] at z; cases z
  cases c with
  | lst xs =>
    obtain ⟨h1, vs, h2, h3⟩ := h
    exact ⟨nn h1 _ h2, vs, g.h _ _ h2, repL_ex g.f xs h3⟩
  | frz xs =>
    obtain ⟨vs, h2, h3⟩ := h
    exact ⟨vs, g.f _ _ h2, repL_ex g.f xs h3⟩
  | ins c fs =>
    obtain ⟨h0, hk, h1, dx, vs, h2, h3, h4⟩ := h
    exact ⟨h0, hk, nn h1 _ h2, dx, vs, g.h _ _ h2, h3, repL_ex g.f _ h4⟩
  | gone =>
    obtain ⟨o, h1⟩ := h
    exact ⟨o, g.h _ _ h1⟩
theorem CellR.there {a : Addr} {c : Cell} (h : CellR S F H a c) (s : Ex F H) : ∃ o, H a = some o := by
  cases c with
  | lst xs => obtain ⟨_, vs, h2, _⟩ := h; exact ⟨_, h2⟩
  | frz xs => obtain ⟨vs, h1, _⟩ := h; exact ⟨_, s _ _ h1⟩
  | ins c fs => obtain ⟨_, _, _, dx, vs, h2, _⟩ := h; exact ⟨_, h2⟩
  | gone => exact h
theorem MemR.grow {μ : Nat → Addr} {M : Mem} (h : MemR S μ F M H) (g : Grow F F' H H') : MemR S μ F' M H' :=
  ⟨g.sub, fun n c e => (h.cell n c e).grow g, h.inj⟩
theorem Grow.aft {μ : Nat → Addr} {k : Nat} (g : Grow F F' H H') : Aft μ F H k μ F' H' k := ⟨g.f, Nat.le_refl _, fun _ _ => rfl, fun a o h _ => g.h a o h, fun a o h => ⟨o, g.h a o h⟩, fun n h1 h2 => by omega, fun a o h => (g.new a o h).elim .inl fun z => .inr (.inl z)⟩
theorem Grow.trans {F1 H1 F2 H2 : Hp} (a : Grow F F1 H H1) (b : Grow F1 F2 H1 H2) : Grow F F2 H H2 :=
  ⟨a.f.trans b.f, a.h.trans b.h, fun x o e => by
    rcases b.new x o e with z | z
    · exact a.new x o z
    · exact .inr (Evl.fresh_back a.h z), b.sub⟩
/-- a cell more -/
theorem MemR.cellNew {μ : Nat → Addr} {M : Mem} (h : MemR S μ F M H) {p : Addr} {o : HO} {c : Cell} (hp : H p = none) (r : CellR S F (upd H p o) p c) :
    MemR S (fun n => if n = M.length then p else μ n) F (M ++ [c]) (upd H p o) ∧ Aft μ F H M.length (fun n => if n = M.length then p else μ n) F (upd H p o) (M ++ [c]).length := by
  have s : Ex F (upd H p o) := h.sub.trans (Evl.Ex.new hp)
  have fp : F p = none := Evl.fresh_back h.sub hp
  have g : Grow F F H (upd H p o) := ⟨Evl.Ex.refl F, Evl.Ex.new hp, fun a u e => .inl e, s⟩
  refine ⟨⟨s, fun n d e => ?_, fun n m hn hm e => ?_⟩, Evl.Ex.refl F, by simp, fun n hn => ?_, fun a u e _ => g.h a u e, fun a u e => ⟨u, g.h a u e⟩, fun n h1 h2 => ?_, fun a u e => .inl e⟩
  · by_cases hl : n < M.length
    · rw [List.getElem?_append_left hl] at e
      have z := (h.cell n d e).grow g
      show CellR S F (upd H p o) (if n = M.length then p else μ n) d
      rw [if_neg (by omega)]
      exact z
    · rw [List.getElem?_append_right (by omega)] at e
      have hn : n = M.length := by
        cases hk : n - M.length with
        | zero => omega
        | succ k => rw [hk] at e; simp at e
      subst hn
      have e : c = d := by simpa using e
      subst e
      show CellR S F (upd H p o) (if M.length = M.length then p else μ M.length) c
      rw [if_pos rfl]
      exact r
  · have e : (if n = M.length then p else μ n) = (if m = M.length then p else μ m) := e
    simp only [List.length_append, List.length_cons, List.length_nil] at hn hm
    have old : ∀ j, j < M.length → μ j ≠ p := fun j hj z => by
      obtain ⟨u, hu⟩ := (h.cell j _ (List.getElem?_eq_getElem hj)).there h.sub
      rw [z, hp] at hu
      cases hu
    by_cases h1 : n = M.length
    · by_cases h2 : m = M.length
      · omega
      · rw [if_pos h1, if_neg h2] at e
        exact absurd e.symm (old m (by omega))
    · by_cases h2 : m = M.length
      · rw [if_neg h1, if_pos h2] at e
        exact absurd e (old n (by omega))
      · rw [if_neg h1, if_neg h2] at e
        exact h.inj n m (by omega) (by omega) e
  · show (if n = M.length then p else μ n) = μ n
    rw [if_neg (by omega)]
  · have e : n = M.length := by simp at h2; omega
    show H (if n = M.length then p else μ n) = none
    rw [if_pos e]
    exact hp
/-- a cell is written -/
theorem MemR.cellSet {μ : Nat → Addr} {M : Mem} (h : MemR S μ F M H) {n : Nat} {o : HO} {c : Cell} (hn : n < M.length) (hf : F (μ n) = none) (r : CellR S F (upd H (μ n) o) (μ n) c) : MemR S μ F (M.set n c) (upd H (μ n) o) ∧ Aft μ F H M.length μ F (upd H (μ n) o) (M.set n c).length := by
  have s : Ex F (upd H (μ n) o) := Evl.Ex.mut h.sub hf
  refine ⟨⟨s, fun m d e => ?_, fun a b ha hb => h.inj a b (by simpa using ha) (by simpa using hb)⟩, Evl.Ex.refl F, by simp, fun _ _ => rfl, fun a u e q => by rw [upd_ne (q n hn)]; exact e, fun a u e => ?_, fun m h1 h2 => by simp at h2; omega, fun a u e => .inl e⟩
  rotate_left
  · by_cases q : a = μ n
    · exact ⟨o, by rw [q]; exact upd_same⟩
    · exact ⟨u, by rw [upd_ne q]; exact e⟩
  by_cases hm : n = m
  · subst hm
    rw [List.getElem?_set_self hn] at e
    have e := Option.some.inj e
    subst e
    exact r
  · rw [List.getElem?_set_ne hm] at e
    have hl : m < M.length := (List.getElem?_eq_some_iff.mp e).1
    have ne : μ m ≠ μ n := fun z => hm (h.inj m n hl hn z).symm
    have z := h.cell m d e
    cases d with
    | lst xs =>
      obtain ⟨h1, vs, h2, h3⟩ := z
      exact ⟨h1, vs, by rw [upd_ne ne]; exact h2, h3⟩
    | frz xs => exact z
    | ins c fs =>
      obtain ⟨h0, hk, h1, dx, vs, h2, h3, h4⟩ := z
      exact ⟨h0, hk, h1, dx, vs, by rw [upd_ne ne]; exact h2, h3, h4⟩
    | gone =>
      obtain ⟨u, h1⟩ := z
      exact ⟨u, by rw [upd_ne ne]; exact h1⟩
/-- a cell is frozen -/
theorem MemR.freeze {μ : Nat → Addr} {M : Mem} (h : MemR S μ F M H) {n : Nat} {xs : List D} (e : M[n]? = some (.lst xs)) :
    ∃ F', Ex F F' ∧ MemR S μ F' (M.set n (.frz xs)) H ∧ Aft μ F H M.length μ F' H (M.set n (.frz xs)).length ∧ RepD S F' (.lst xs) (.ref (μ n)) := by
  obtain ⟨h1, vs, h2, h3⟩ := h.cell n _ e
  have hn : n < M.length := (List.getElem?_eq_some_iff.mp e).1
  have ef : Ex F (upd F (μ n) (.lst vs)) := Evl.Ex.new h1
  refine ⟨upd F (μ n) (.lst vs), ef, ⟨fun a o q => ?_, fun m d q => ?_, fun a b ha hb => h.inj a b (by simpa using ha) (by simpa using hb)⟩, ⟨ef, by simp, fun _ _ => rfl, fun _ _ q _ => q, fun _ o q => ⟨o, q⟩, fun m h1 h2 => by simp at h2; omega, fun a o q => ?_⟩, ?_⟩
  · by_cases hx : a = μ n
    · subst hx; rw [upd_same] at q; rw [h2]; exact q
    · rw [upd_ne hx] at q; exact h.sub a o q
  · by_cases hm : n = m
    · subst hm
      rw [List.getElem?_set_self hn] at q
      have q := Option.some.inj q
      subst q
      exact ⟨vs, upd_same, repL_ex ef xs h3⟩
    · rw [List.getElem?_set_ne hm] at q
      have hl : m < M.length := (List.getElem?_eq_some_iff.mp q).1
      have ne : μ m ≠ μ n := fun z => hm (h.inj m n hl hn z).symm
      have z := h.cell m d q
      cases d with
      | lst ys =>
        obtain ⟨k1, ws, k2, k3⟩ := z
        exact ⟨by rw [upd_ne ne]; exact k1, ws, k2, repL_ex ef ys k3⟩
      | frz ys =>
        obtain ⟨ws, k2, k3⟩ := z
        exact ⟨ws, ef _ _ k2, repL_ex ef ys k3⟩
      | ins c fs =>
        obtain ⟨k0, kk, k1, dx, ws, k2, k3, k4⟩ := z
        exact ⟨k0, kk, by rw [upd_ne ne]; exact k1, dx, ws, k2, k3, repL_ex ef _ k4⟩
      | gone => exact z
  · by_cases hx : a = μ n
    · exact .inr (.inr ⟨n, by simpa using hn, hx⟩)
    · rw [upd_ne hx] at q; exact .inl q
  · exact rep_lst upd_same (repL_ex ef xs h3)
/-- a cell that is an instance is written no more; it leaves the memory -/
theorem MemR.freezeIns {μ : Nat → Addr} {M : Mem} {c : Nat} {fs : List (Nat × D)} (h : MemR S μ F (M ++ [.ins c fs]) H) (hf : fs.map (·.1) = S.cf c) :
    ∃ F', Ex F F' ∧ MemR S μ F' M H ∧ Aft μ F H (M.length + 1) μ F' H (M.length + 1) ∧ RepD S F' (.ins c (fs.map (·.2))) (.ref (μ M.length)) := by
  have e : (M ++ [Cell.ins c fs])[M.length]? = some (.ins c fs) := by simp
  obtain ⟨h0, _, h1, dx, vs, h2, h3, h4⟩ := h.cell M.length _ e
  have ef : Ex F (upd F (μ M.length) (.ins (S.ca c) dx ((fs.map fun p => S.fnm p.1).zip vs))) := Evl.Ex.new h1
  have ll : (M ++ [Cell.ins c fs]).length = M.length + 1 := by simp
  have en : fs.map (fun p => S.fnm p.1) = S.names c := by
    unfold Sta.names
    rw [← hf, List.map_map]
    rfl
  refine ⟨upd F (μ M.length) (.ins (S.ca c) dx ((fs.map fun p => S.fnm p.1).zip vs)), ef, ⟨fun a o q => ?_, fun m d q => ?_, fun a b ha hb => h.inj a b (by omega) (by omega)⟩, ⟨ef, Nat.le_refl _, fun _ _ => rfl, fun _ _ q _ => q, fun _ o q => ⟨o, q⟩, fun m h1 h2 => by omega, fun a o q => ?_⟩, ?_⟩
  · by_cases hx : a = μ M.length
    · subst hx; rw [upd_same] at q; rw [h2]; exact q
    · rw [upd_ne hx] at q; exact h.sub a o q
  · have hl : m < M.length := (List.getElem?_eq_some_iff.mp q).1
    have q : (M ++ [Cell.ins c fs])[m]? = some d := by rw [List.getElem?_append_left hl]; exact q
    have ne : μ m ≠ μ M.length := fun z => by
      have := h.inj m M.length (by omega) (by omega) z
      omega
    have z := h.cell m d q
    cases d with
    | lst ys =>
      obtain ⟨k1, ws, k2, k3⟩ := z
      exact ⟨by rw [upd_ne ne]; exact k1, ws, k2, repL_ex ef ys k3⟩
    | frz ys =>
      obtain ⟨ws, k2, k3⟩ := z
      exact ⟨ws, ef _ _ k2, repL_ex ef ys k3⟩
    | ins c fs =>
      obtain ⟨k0, kk, k1, dx, ws, k2, k3, k4⟩ := z
      exact ⟨k0, kk, by rw [upd_ne ne]; exact k1, dx, ws, k2, k3, repL_ex ef _ k4⟩
    | gone => exact z
  · by_cases hx : a = μ M.length
    · exact .inr (.inr ⟨M.length, by omega, hx⟩)
    · rw [upd_ne hx] at q; exact .inl q
  · refine rep_ins (vs := vs) (dx := dx) h0 ?_ ?_ (repL_ex ef _ h4)
    · rw [upd_same, en]
    · rw [h3, ← en, List.length_map]
theorem MemR.take {μ : Nat → Addr} {M : Mem} (h : MemR S μ F M H) (k : Nat) : MemR S μ F (M.take k) H := by
  refine ⟨h.sub, fun n c e => ?_, fun a b ha hb => h.inj a b ?_ ?_⟩
  · by_cases hn : n < k
    · rw [List.getElem?_take_of_lt hn] at e
      exact h.cell n c e
    · rw [List.getElem?_eq_none (by rw [List.length_take]; omega)] at e
      cases e
  · rw [List.length_take] at ha; omega
  · rw [List.length_take] at hb; omega
end PyI

/-! PyI 3: the readings of expressions, the operations. -/
namespace PyI
open PySem PySem.Spec PyProof.Rows L2
open Evl (Ex)

def RepX (S : Sta) (F : Hp) (x : Xn) (cls : Value) (d : Option Addr) : Prop :=
  S.has x.c = true ∧ cls = .ref (S.ca x.c) ∧ ((x.fs = [] ∧ d = none) ∨ ∃ dd vs, d = some dd ∧ F dd = some (.xd ((S.names x.c).zip vs)) ∧ vs.length = (S.names x.c).length ∧ RepL S F x.fs vs)
theorem RepX.ex {S : Sta} {F F' : Hp} {x : Xn} {cls : Value} {d : Option Addr} (h : RepX S F x cls d) (e : Ex F F') : RepX S F' x cls d := by
  obtain ⟨h0, h1, h2⟩ := h
  refine ⟨h0, h1, ?_⟩
  rcases h2 with h2 | ⟨dd, vs, h2, h3, h4, h5⟩
  · exact .inl h2
  · exact .inr ⟨dd, vs, h2, e _ _ h3, h4, repL_ex e _ h5⟩

abbrev Sl := List (Option V)

/-- what is wanted behind an expression -/
def KE (S : Sta) (W : WX) (μ : Nat → Addr) (F H : Hp) (k : Nat) (σ : Sl) (Q : VK) : R Val → Prop
  | .ok v M => ∀ μ' F' H' w, Aft μ F H k μ' F' H' M.length → MemR S μ' F' M H' → RepV S F' μ' M.length v w → Q w H'
  | .ex x M => ∀ μ' F' H' cls d, Aft μ F H k μ' F' H' M.length → MemR S μ' F' M H' → RepX S F' x cls d → W cls d σ H'
def KB (S : Sta) (W : WX) (μ : Nat → Addr) (F H : Hp) (k : Nat) (σ : Sl) (Q : Bool → Hp → Prop) : R Bool → Prop
  | .ok b M => ∀ μ' F' H', Aft μ F H k μ' F' H' M.length → MemR S μ' F' M H' → Q b H'
  | .ex x M => ∀ μ' F' H' cls d, Aft μ F H k μ' F' H' M.length → MemR S μ' F' M H' → RepX S F' x cls d → W cls d σ H'
def KA (S : Sta) (W : WX) (μ : Nat → Addr) (F H : Hp) (k : Nat) (σ : Sl) (Q : List V → Hp → Prop) : R (List Val) → Prop
  | .ok vs M => ∀ μ' F' H' ws, Aft μ F H k μ' F' H' M.length → MemR S μ' F' M H' → RepVs S F' μ' M.length vs ws → Q ws H'
  | .ex x M => ∀ μ' F' H' cls d, Aft μ F H k μ' F' H' M.length → MemR S μ' F' M H' → RepX S F' x cls d → W cls d σ H'
def rE (S : Sta) (C : Orc) (W : WX) (e : IE) : TE := fun σ H Q =>
  ∃ μ F env M r, MemR S μ F M H ∧ EnvR S μ F M.length env σ ∧ denE C e env M = some r ∧ KE S W μ F H M.length σ Q r
def rB (S : Sta) (C : Orc) (W : WX) (e : IE) : TT := fun σ H Q =>
  ∃ μ F env M r, MemR S μ F M H ∧ EnvR S μ F M.length env σ ∧ denB C e env M = some r ∧ KB S W μ F H M.length σ Q r
def rA (S : Sta) (C : Orc) (W : WX) (es : IEs) : TA := fun σ H Q =>
  ∃ μ F env M r, MemR S μ F M H ∧ EnvR S μ F M.length env σ ∧ denEs C es env M = some r ∧ KA S W μ F H M.length σ Q r

section
variable {S : Sta} {C : Orc} {W : WX} {X : Cx}
theorem peI {e : Expr} {t t' : TE} (h : PE X e t) (i : ∀ σ H Q, t' σ H Q → t σ H Q) : PE X e t' := ⟨fun pins s σ H Q I q => h.run pins s σ H Q I (i σ H Q q)⟩
theorem ptI {e : Expr} {t t' : TT} (h : PT X e t) (i : ∀ σ H Q, t' σ H Q → t σ H Q) : PT X e t' := ⟨fun pins s σ H Q I q => h.run pins s σ H Q I (i σ H Q q)⟩
theorem pwI {e : Expr} {t t' : TT} (h : PW X e t) (i : ∀ σ H Q, t' σ H Q → t σ H Q) : PW X e t' := ⟨fun wh pins s σ H Q I q => h.run wh pins s σ H Q I (i σ H Q q)⟩
theorem paI {es : List Expr} {t t' : TA} (h : PA X es t) (i : ∀ σ H Q, t' σ H Q → t σ H Q) : PA X es t' := ⟨fun pos pins s σ H Q I q => h.run pos pins s σ H Q I (i σ H Q q)⟩
theorem psI {st : Stmt} {t t' : TS} (h : PS X st t) (i : ∀ D σ H, t' D σ H → t D σ H) : PS X st t' := ⟨fun pins s σ H D I q => h.run pins s σ H D I (i D σ H q)⟩
theorem pssI {st : List Stmt} {t t' : TS} (h : PSs X st t) (i : ∀ D σ H, t' D σ H → t D σ H) : PSs X st t' := ⟨fun pins s σ H D I q => h.run pins s σ H D I (i D σ H q)⟩

theorem KE.weak {μ μ1 : Nat → Addr} {F F1 H H1 : Hp} {k k1 : Nat} {σ : Sl} {Q : VK} {r : R Val} (a : Aft μ F H k μ1 F1 H1 k1) (h : KE S W μ F H k σ Q r) : KE S W μ1 F1 H1 k1 σ Q r := by
  cases r with
  | ok v M => exact fun μ' F' H' w b m q => h μ' F' H' w (a.trans b) m q
  | ex x M => exact fun μ' F' H' c d b m q => h μ' F' H' c d (a.trans b) m q
theorem KB.weak {μ μ1 : Nat → Addr} {F F1 H H1 : Hp} {k k1 : Nat} {σ : Sl} {Q : Bool → Hp → Prop} {r : R Bool} (a : Aft μ F H k μ1 F1 H1 k1) (h : KB S W μ F H k σ Q r) : KB S W μ1 F1 H1 k1 σ Q r := by
  cases r with
  | ok v M => exact fun μ' F' H' b m => h μ' F' H' (a.trans b) m
  | ex x M => exact fun μ' F' H' c d b m q => h μ' F' H' c d (a.trans b) m q
theorem KA.weak {μ μ1 : Nat → Addr} {F F1 H H1 : Hp} {k k1 : Nat} {σ : Sl} {Q : List V → Hp → Prop} {r : R (List Val)} (a : Aft μ F H k μ1 F1 H1 k1) (h : KA S W μ F H k σ Q r) : KA S W μ1 F1 H1 k1 σ Q r := by
  cases r with
  | ok v M => exact fun μ' F' H' w b m q => h μ' F' H' w (a.trans b) m q
  | ex x M => exact fun μ' F' H' c d b m q => h μ' F' H' c d (a.trans b) m q

/-- the first part of an expression, then the rest -/
theorem rE_bnd {e : IE} {σ : Sl} {H : Hp} {Q : VK} {μ : Nat → Addr} {F : Hp} {env : Env} {M : Mem} {k : Val → Mem → Option (R Val)} {r : R Val} {Q1 : VK}
    (hM : MemR S μ F M H) (hE : EnvR S μ F M.length env σ) (hd : bnd (denE C e env M) k = some r) (hk : KE S W μ F H M.length σ Q r)
    (next : ∀ μ1 F1 H1 v M1 w, Aft μ F H M.length μ1 F1 H1 M1.length → MemR S μ1 F1 M1 H1 → EnvR S μ1 F1 M1.length env σ → RepV S F1 μ1 M1.length v w → k v M1 = some r → KE S W μ1 F1 H1 M1.length σ Q r → Q1 w H1) :
    rE S C W e σ H Q1 := by
  rcases bnd_eq hd with ⟨v, M1, e1, h1⟩ | ⟨x, M1, e1, e2⟩
  · exact ⟨μ, F, env, M, _, hM, hE, e1, fun μ1 F1 H1 w a m q => next μ1 F1 H1 v M1 w a m (hE.aft a) q h1 (hk.weak a)⟩
  · subst e2
    exact ⟨μ, F, env, M, _, hM, hE, e1, hk⟩
theorem rA_bnd {es : IEs} {σ : Sl} {H : Hp} {Q : VK} {μ : Nat → Addr} {F : Hp} {env : Env} {M : Mem} {k : List Val → Mem → Option (R Val)} {r : R Val} {Q1 : List V → Hp → Prop}
    (hM : MemR S μ F M H) (hE : EnvR S μ F M.length env σ) (hd : bnd (denEs C es env M) k = some r) (hk : KE S W μ F H M.length σ Q r)
    (next : ∀ μ1 F1 H1 vs M1 ws, Aft μ F H M.length μ1 F1 H1 M1.length → MemR S μ1 F1 M1 H1 → EnvR S μ1 F1 M1.length env σ → RepVs S F1 μ1 M1.length vs ws → k vs M1 = some r → KE S W μ1 F1 H1 M1.length σ Q r → Q1 ws H1) :
    rA S C W es σ H Q1 := by
  rcases bnd_eq hd with ⟨v, M1, e1, h1⟩ | ⟨x, M1, e1, e2⟩
  · exact ⟨μ, F, env, M, _, hM, hE, e1, fun μ1 F1 H1 w a m q => next μ1 F1 H1 v M1 w a m (hE.aft a) q h1 (hk.weak a)⟩
  · subst e2
    exact ⟨μ, F, env, M, _, hM, hE, e1, hk⟩

/-! ### to see, to hold -/
/-- as RepD, but a list may be one that is still written -/
def RepA (S : Sta) (F H : Hp) (x : D) (w : V) : Prop :=
  match x with
  | .lst xs => ∃ a vs, w = V.ref a ∧ H a = some (.lst vs) ∧ RepL S F xs vs
  | x => RepD S F x w
theorem repA_of {F H : Hp} {x : D} {w : V} (e : Ex F H) (h : RepD S F x w) : RepA S F H x w := by
  cases x with
  | lst xs =>
    obtain ⟨a, vs, rfl, h1, h2⟩ := repD_lst h
    exact ⟨a, vs, rfl, e _ _ h1, h2⟩
  | _ => exact h
theorem see_rf (M : Mem) (n : Nat) : Val.see M (.rf n) = match M[n]? with | some (.lst xs) => some (.lst xs) | some (.frz xs) => some (.lst xs) | _ => none := rfl
theorem hold_rf (M : Mem) (n : Nat) : Val.hold M (.rf n) = match M[n]? with | some (.lst xs) => some (.lst xs, M.set n (.frz xs)) | some (.frz xs) => some (.lst xs, M) | _ => none := rfl
theorem see_ok {μ : Nat → Addr} {F H : Hp} {M : Mem} {v : Val} {w : V} {x : D} (hM : MemR S μ F M H) (h : RepV S F μ M.length v w) (e : v.see M = some x) : RepA S F H x w := by
  cases v with
  | d y =>
    have e : y = x := Option.some.inj e
    subst e
    exact repA_of hM.sub h
  | rf n =>
    obtain ⟨hn, rfl⟩ := (show n < M.length ∧ w = V.ref (μ n) from h)
    rw [see_rf] at e
    cases hc : M[n]? with
    | none => rw [hc] at e; cases e
    | some c =>
      have z := hM.cell n c hc
      rw [hc] at e
      cases c with
      | lst xs =>
        have e : D.lst xs = x := Option.some.inj e
        subst e
        obtain ⟨_, vs, h2, h3⟩ := z
        exact ⟨_, vs, rfl, h2, h3⟩
      | frz xs =>
        have e : D.lst xs = x := Option.some.inj e
        subst e
        obtain ⟨vs, h2, h3⟩ := z
        exact ⟨_, vs, rfl, hM.sub _ _ h2, h3⟩
      | ins c fs => cases e
      | gone => cases e
theorem hold_ok {μ : Nat → Addr} {F H : Hp} {M M1 : Mem} {v : Val} {w : V} {x : D} (hM : MemR S μ F M H) (h : RepV S F μ M.length v w) (e : v.hold M = some (x, M1)) :
    ∃ F1, MemR S μ F1 M1 H ∧ Aft μ F H M.length μ F1 H M1.length ∧ RepD S F1 x w := by
  cases v with
  | d y =>
    have e := Option.some.inj e
    cases e
    exact ⟨F, hM, Aft.refl, h⟩
  | rf n =>
    obtain ⟨hn, rfl⟩ := (show n < M.length ∧ w = V.ref (μ n) from h)
    rw [hold_rf] at e
    cases hc : M[n]? with
    | none => rw [hc] at e; cases e
    | some c =>
      rw [hc] at e
      cases c with
      | lst xs =>
        have e := Option.some.inj e
        cases e
        obtain ⟨F1, h1, h2, h3, h4⟩ := hM.freeze hc
        exact ⟨F1, h2, h3, h4⟩
      | frz xs =>
        have e := Option.some.inj e
        cases e
        obtain ⟨vs, h2, h3⟩ := hM.cell n _ hc
        exact ⟨F, hM, Aft.refl, rep_lst h2 h3⟩
      | ins c fs => cases e
      | gone => cases e
theorem holds_ok {μ : Nat → Addr} {H : Hp} : ∀ {vs : List Val} {F : Hp} {M M1 : Mem} {ws : List V} {xs : List D}, MemR S μ F M H → RepVs S F μ M.length vs ws → holds M vs = some (xs, M1) →
    ∃ F1, MemR S μ F1 M1 H ∧ Aft μ F H M.length μ F1 H M1.length ∧ RepL S F1 xs ws
  | [], F, M, M1, ws, xs, hM, h, e => by
    have e := Option.some.inj e
    cases e
    rw [h.nil]
    exact ⟨F, hM, Aft.refl, repL_emp⟩
  | v :: vs, F, M, M1, ws, xs, hM, h, e => by
    obtain ⟨w, us, rfl, h1, h2⟩ := h.cons
    unfold holds at e
    cases e1 : v.hold M with
    | none => rw [e1] at e; cases e
    | some p =>
      obtain ⟨x, M2⟩ := p
      rw [e1] at e
      obtain ⟨F2, m2, a2, r2⟩ := hold_ok hM h1 e1
      cases e2 : holds M2 vs with
      | none => simp only [e2] at e; cases e
      | some p =>
        obtain ⟨ys, M3⟩ := p
        simp only [e2] at e
        have e := Option.some.inj e
        cases e
        obtain ⟨F3, m3, a3, r3⟩ := holds_ok m2 (h2.aft a2) e2
        exact ⟨F3, m3, a2.trans a3, repL_mk (repD_ex a3.f x r2) r3⟩
theorem sees_cons {M : Mem} {v : Val} {vs : List Val} {xs : List D} (e : sees M (v :: vs) = some xs) : ∃ y ys, xs = y :: ys ∧ v.see M = some y ∧ sees M vs = some ys := by
  unfold sees at e
  cases e1 : v.see M with
  | none => rw [e1] at e; cases e
  | some y =>
    rw [e1] at e
    cases e2 : sees M vs with
    | none => simp only [e2] at e; cases e
    | some ys =>
      simp only [e2] at e
      exact ⟨y, ys, (Option.some.inj e).symm, rfl, rfl⟩
theorem sees_one {M : Mem} {v : Val} {xs : List D} (e : sees M [v] = some xs) : ∃ y, xs = [y] ∧ v.see M = some y := by
  obtain ⟨y, ys, rfl, h1, h2⟩ := sees_cons e
  have h2 : ([] : List D) = ys := Option.some.inj h2
  subst h2
  exact ⟨y, rfl, h1⟩
theorem sees_two {M : Mem} {v w : Val} {xs : List D} (e : sees M [v, w] = some xs) : ∃ y z, xs = [y, z] ∧ v.see M = some y ∧ w.see M = some z := by
  obtain ⟨y, ys, rfl, h1, h2⟩ := sees_cons e
  obtain ⟨z, rfl, h3⟩ := sees_one h2
  exact ⟨y, z, rfl, h1, h3⟩

/-! ### what an operation's rule must give -/
/-- a new or an old value z -/
def Gives (S : Sta) (F H : Hp) (z : D) (Q : VK) : Prop := ∀ F' H' w, Grow F F' H H' → RepD S F' z w → Q w H'
def Two0 (S : Sta) (o : Op) (r : R2) : Prop := ∀ (F H : Hp) (x y : V) (d e z : D) (Q : VK), Ex F H → RepA S F H d x → RepA S F H e y → opD o [d, e] = some z → Gives S F H z Q → r x y H Q
def One0 (S : Sta) (o : Op) (r : V → Hp → VK → Prop) : Prop := ∀ (F H : Hp) (x : V) (d z : D) (Q : VK), Ex F H → RepA S F H d x → opD o [d] = some z → Gives S F H z Q → r x H Q
theorem gives_of {μ : Nat → Addr} {F H : Hp} {M : Mem} {σ : Sl} {Q : VK} {z : D} (hM : MemR S μ F M H) (hk : KE S W μ F H M.length σ Q (.ok (.d z) M)) : Gives S F H z Q :=
  fun F' H' w g r => hk μ F' H' w g.aft (hM.grow g) r
theorem runOp_see {o : Op} (ho : o.keeps = false) {vs : List Val} {M : Mem} {r : R Val} (e : runOp o vs M = some r) : ∃ xs z, sees M vs = some xs ∧ opD o xs = some z ∧ r = .ok (.d z) M := by
  unfold runOp at e
  rw [ho, if_neg (by decide)] at e
  cases e1 : sees M vs with
  | none => rw [e1] at e; cases e
  | some xs =>
    simp only [e1] at e
    cases e2 : opD o xs with
    | none => rw [e2] at e; cases e
    | some z =>
      rw [e2] at e
      exact ⟨xs, z, rfl, e2, (Option.some.inj e).symm⟩
theorem rE_two {o : Op} {a b : IE} {r : R2} (ho : o.keeps = false) (h : Two0 S o r) {σ : Sl} {H : Hp} {Q : VK} (q : rE S C W (.op o (.cons a (.cons b .nil))) σ H Q) : tOp r (rE S C W a) (rE S C W b) σ H Q := by
  obtain ⟨μ, F, env, M, res, hM, hE, hd, hk⟩ := q
  unfold denE at hd
  rcases bnd_eq hd with ⟨vs, M3, e3, h3⟩ | ⟨x, M1, e1, e2⟩
  · -- both are values
    unfold denEs at e3
    rcases bnd_eq e3 with ⟨v, M1, e1, h1⟩ | ⟨x, M1, e1, e2⟩
    · refine ⟨μ, F, env, M, _, hM, hE, e1, fun μ1 F1 H1 w a1 m1 q1 => ?_⟩
      unfold denEs at h1
      rcases bnd_eq h1 with ⟨us, M2, e2, h2⟩ | ⟨x, M2, e2, h2⟩
      · rcases bnd_eq e2 with ⟨u, M4, e4, h4⟩ | ⟨x, M4, e4, h4⟩
        · refine ⟨μ1, F1, env, M1, _, m1, hE.aft a1, e4, fun μ2 F2 H2 w2 a2 m2 q2 => ?_⟩
          unfold denEs at h4
          have h4 := Option.some.inj h4
          cases h4
          have h2 := Option.some.inj h2
          cases h2
          obtain ⟨xs, z, s1, s2, rfl⟩ := runOp_see ho h3
          obtain ⟨d, e, rfl, sd, se⟩ := sees_two s1
          exact h F2 H2 w w2 d e z Q m2.sub (see_ok m2 (q1.aft a2) sd) (see_ok m2 q2 se) s2 (gives_of m2 (hk.weak (a1.trans a2)))
        · cases h4
      · cases h2
    · cases e2
  · subst e2
    -- an exception on the way
    unfold denEs at e1
    rcases bnd_eq e1 with ⟨v, M2, e3, h3⟩ | ⟨x, M2, e3, h3⟩
    · refine ⟨μ, F, env, M, _, hM, hE, e3, fun μ1 F1 H1 w a1 m1 q1 => ?_⟩
      unfold denEs at h3
      rcases bnd_eq h3 with ⟨us, M4, e4, h4⟩ | ⟨x, M4, e4, h4⟩
      · cases h4
      · rcases bnd_eq e4 with ⟨u, M5, e5, h5⟩ | ⟨x, M5, e5, h5⟩
        · unfold denEs at h5; cases h5
        · cases h5
          cases h4
          exact ⟨μ1, F1, env, M2, _, m1, hE.aft a1, e5, hk.weak a1⟩
    · cases h3
      exact ⟨μ, F, env, M, _, hM, hE, e3, hk⟩
theorem rE_one {o : Op} {a : IE} {r : V → Hp → VK → Prop} (ho : o.keeps = false) (h : One0 S o r) {σ : Sl} {H : Hp} {Q : VK} (q : rE S C W (.op o (.cons a .nil)) σ H Q) : tUn r (rE S C W a) σ H Q := by
  obtain ⟨μ, F, env, M, res, hM, hE, hd, hk⟩ := q
  unfold denE at hd
  rcases bnd_eq hd with ⟨vs, M3, e3, h3⟩ | ⟨x, M1, e1, e2⟩
  · unfold denEs at e3
    rcases bnd_eq e3 with ⟨v, M1, e1, h1⟩ | ⟨x, M1, e1, e2⟩
    · refine ⟨μ, F, env, M, _, hM, hE, e1, fun μ1 F1 H1 w a1 m1 q1 => ?_⟩
      unfold denEs at h1
      have h1 : R.ok [v] M1 = R.ok vs M3 := Option.some.inj h1
      cases h1
      obtain ⟨xs, z, s1, s2, rfl⟩ := runOp_see ho h3
      obtain ⟨d, rfl, sd⟩ := sees_one s1
      exact h F1 H1 w d z Q m1.sub (see_ok m1 q1 sd) s2 (gives_of m1 (hk.weak a1))
    · cases e2
  · subst e2
    unfold denEs at e1
    rcases bnd_eq e1 with ⟨v, M2, e3, h3⟩ | ⟨x, M2, e3, h3⟩
    · unfold denEs at h3; cases h3
    · cases h3
      exact ⟨μ, F, env, M, _, hM, hE, e3, hk⟩
end
end PyI

/-! PyI 4: names, arguments, displays, calls, truth. -/
namespace PyI
open PySem PySem.Spec PyProof.Rows L2
open Evl (Ex)
section
variable {S : Sta} {C : Orc} {W : WX} {X : Cx}

/-! ### names, constants -/
theorem pe_varI {i : Nat} {x : Str} {pos : Pos} (hN : X.N[i]? = some x) (hv : Vis X.env.scope x) (hd : (x == ("__debug__" : Str)) = false) (hc : (x == ("__classdict__" : Str)) = false) : PE X (.Name x pos) (rE S C W (.var i)) := by
  refine peI (pe_var hN hv hd hc) fun σ H Q q => ?_
  obtain ⟨μ, F, env, M, r, hM, hE, hd, hk⟩ := q
  unfold denE at hd
  cases e : env[i]? with
  | none => rw [e] at hd; cases hd
  | some o =>
    cases o with
    | none => rw [e] at hd; cases hd
    | some v =>
      rw [e] at hd
      have hd := Option.some.inj hd
      subst hd
      obtain ⟨w, h1, h2⟩ := hE.at_ i v e
      exact ⟨w, h1, hk μ F H w Aft.refl hM h2⟩
theorem rE_cst {x : D} {v : V} (h : ∀ F, RepD S F x v) {σ : Sl} {H : Hp} {Q : VK} (q : rE S C W (.cst x) σ H Q) : tC v σ H Q := by
  obtain ⟨μ, F, env, M, r, hM, hE, hd, hk⟩ := q
  unfold denE at hd
  have hd := Option.some.inj hd
  subst hd
  exact hk μ F H v Aft.refl hM (h F)

/-! ### arguments -/
theorem star_no {e : Expr} {es : List Expr} {env : PySem.Env} (h : ∀ y p, e ≠ .Starred y p) : starEach (e :: es) env = (false, eval e env) :: starEach es env := by
  cases e <;> first | rfl | exact absurd rfl (h _ _)
theorem pa_nilI : PA X [] (rA S C W .nil) := by
  refine paI pa_nil fun σ H Q q => ?_
  obtain ⟨μ, F, env, M, r, hM, hE, hd, hk⟩ := q
  unfold denEs at hd
  have hd := Option.some.inj hd
  subst hd
  exact hk μ F H [] Aft.refl hM trivial
theorem pa_consI {e : Expr} {es : List Expr} {ie : IE} {ies : IEs} (he : PE X e (rE S C W ie)) (hr : PA X es (rA S C W ies)) (hs : ∀ y p, e ≠ .Starred y p) : PA X (e :: es) (rA S C W (.cons ie ies)) := by
  refine paI (pa_cons he hr (star_no hs)) fun σ H Q q => ?_
  obtain ⟨μ, F, env, M, r, hM, hE, hd, hk⟩ := q
  unfold denEs at hd
  rcases bnd_eq hd with ⟨v, M1, e1, h1⟩ | ⟨x, M1, e1, e2⟩
  · refine ⟨μ, F, env, M, _, hM, hE, e1, fun μ1 F1 H1 w a1 m1 q1 => ?_⟩
    rcases bnd_eq h1 with ⟨us, M2, e2, h2⟩ | ⟨x, M2, e2, h2⟩
    · refine ⟨μ1, F1, env, M1, _, m1, hE.aft a1, e2, fun μ2 F2 H2 ws a2 m2 q2 => ?_⟩
      have h2 := Option.some.inj h2
      subst h2
      exact hk μ2 F2 H2 (w :: ws) (a1.trans a2) m2 ⟨q1.aft a2, q2⟩
    · subst h2
      exact ⟨μ1, F1, env, M1, _, m1, hE.aft a1, e2, hk.weak a1⟩
  · subst e2
    exact ⟨μ, F, env, M, _, hM, hE, e1, hk⟩

/-! ### displays -/
theorem holdRun {o : Op} (ho : o.keeps = true) {vs : List Val} {M : Mem} {r : R Val} (e : runOp o vs M = some r) : ∃ xs M1 z, holds M vs = some (xs, M1) ∧ opD o xs = some z ∧ r = .ok (.d z) M1 := by
  unfold runOp at e
  rw [ho, if_pos rfl] at e
  cases e1 : holds M vs with
  | none => rw [e1] at e; cases e
  | some p =>
    obtain ⟨xs, M1⟩ := p
    simp only [e1] at e
    cases e2 : opD o xs with
    | none => rw [e2] at e; cases e
    | some z =>
      rw [e2] at e
      exact ⟨xs, M1, z, rfl, e2, (Option.some.inj e).symm⟩
theorem opD_tup {xs : List D} {z : D} (h : opD .tup xs = some z) : xs.length ≤ sizeLine ∧ z = .tup xs := by
  have h : (if xs.length ≤ sizeLine then some (D.tup xs) else none) = some z := h
  split at h
  · rename_i q; exact ⟨q, (Option.some.inj h).symm⟩
  · cases h
theorem opD_lst {xs : List D} {z : D} (h : opD .lst xs = some z) : xs.length ≤ sizeLine ∧ z = .lst xs := by
  have h : (if xs.length ≤ sizeLine then some (D.lst xs) else none) = some z := h
  split at h
  · rename_i q; exact ⟨q, (Option.some.inj h).symm⟩
  · cases h
theorem rE_tup {es : IEs} {σ : Sl} {H : Hp} {Q : VK} (q : rE S C W (.op .tup es) σ H Q) : tTup (rA S C W es) σ H Q := by
  obtain ⟨μ, F, env, M, r, hM, hE, hd, hk⟩ := q
  unfold denE at hd
  refine rA_bnd hM hE hd hk fun μ1 F1 H1 vs M1 ws a1 m1 e1 q1 h1 k1 => ?_
  obtain ⟨xs, M2, z, s1, s2, rfl⟩ := holdRun rfl h1
  obtain ⟨F2, m2, a2, r2⟩ := holds_ok m1 q1 s1
  obtain ⟨hz, rfl⟩ := opD_tup s2
  refine ⟨by rw [← repL_len r2]; exact hz, fun p hp => ?_⟩
  have g := Grow.one m2.sub (.tup ws) hp
  exact k1 μ1 (upd F2 p (.tup ws)) _ (.ref p) (a2.trans g.aft) (m2.grow g) (rep_tup (Evl.st_of upd_same) (repL_ex g.f _ r2))
theorem rE_lst {es : IEs} {σ : Sl} {H : Hp} {Q : VK} (q : rE S C W (.op .lst es) σ H Q) : tLst (rA S C W es) σ H Q := by
  obtain ⟨μ, F, env, M, r, hM, hE, hd, hk⟩ := q
  unfold denE at hd
  refine rA_bnd hM hE hd hk fun μ1 F1 H1 vs M1 ws a1 m1 e1 q1 h1 k1 => ?_
  obtain ⟨xs, M2, z, s1, s2, rfl⟩ := holdRun rfl h1
  obtain ⟨F2, m2, a2, r2⟩ := holds_ok m1 q1 s1
  obtain ⟨hz, rfl⟩ := opD_lst s2
  refine ⟨by rw [← repL_len r2]; exact hz, fun p hp => ?_⟩
  have g := Grow.one m2.sub (.lst ws) hp
  exact k1 μ1 (upd F2 p (.lst ws)) _ (.ref p) (a2.trans g.aft) (m2.grow g) (rep_lst upd_same (repL_ex g.f _ r2))
theorem rE_emp {σ : Sl} {H : Hp} {Q : VK} (q : rE S C W (.op .emp .nil) σ H Q) : ∀ d, H d = none → Q (.ref d) (upd H d (.dK [])) := by
  obtain ⟨μ, F, env, M, r, hM, hE, hd, hk⟩ := q
  unfold denE denEs at hd
  cases hd
  intro p hp
  have g := Grow.one hM.sub (.dK []) hp
  exact hk μ _ _ (.ref p) g.aft (hM.grow g) (rep_emp (S := S) upd_same)
theorem rE_mkl {es : IEs} {σ : Sl} {H : Hp} {Q : VK} (q : rE S C W (.mk .lst es) σ H Q) : tLst (rA S C W es) σ H Q := by
  obtain ⟨μ, F, env, M, r, hM, hE, hd, hk⟩ := q
  unfold denE at hd
  refine rA_bnd hM hE hd hk fun μ1 F1 H1 vs M1 ws a1 m1 e1 q1 h1 k1 => ?_
  unfold runMk at h1
  cases s1 : holds M1 vs with
  | none => rw [s1] at h1; cases h1
  | some p =>
    obtain ⟨xs, M2⟩ := p
    simp only [s1] at h1
    cases s2 : opD .lst xs with
    | none => rw [s2] at h1; cases h1
    | some z =>
      obtain ⟨hz, rfl⟩ := opD_lst s2
      rw [s2] at h1
      have h1 := Option.some.inj h1
      subst h1
      obtain ⟨F2, m2, a2, r2⟩ := holds_ok m1 q1 s1
      refine ⟨by rw [← repL_len r2]; exact hz, fun p hp => ?_⟩
      obtain ⟨m3, a3⟩ := m2.cellNew (o := .lst ws) (c := .lst xs) hp ⟨Evl.fresh_back m2.sub hp, ws, upd_same, r2⟩
      refine k1 _ F2 _ (.ref p) (a2.trans a3) m3 ⟨by simp, ?_⟩
      show V.ref p = V.ref (if M2.length = M2.length then p else μ1 M2.length)
      rw [if_pos rfl]

/-! ### built-in functions of several arguments -/
def RepAs (S : Sta) (F H : Hp) : List D → List V → Prop
  | [], [] => True
  | x :: xs, v :: vs => RepA S F H x v ∧ RepAs S F H xs vs
  | [], _ :: _ => False
  | _ :: _, [] => False
theorem repAs_one {F H : Hp} {x : D} {ws : List V} (h : RepAs S F H [x] ws) : ∃ w, ws = [w] ∧ RepA S F H x w := by
  cases ws with
  | nil => exact (show False from h).elim
  | cons w ws =>
    cases ws with
    | nil => exact ⟨w, rfl, h.1⟩
    | cons u us => exact (show False from h.2).elim
theorem repAs_two {F H : Hp} {x y : D} {ws : List V} (h : RepAs S F H [x, y] ws) : ∃ v w, ws = [v, w] ∧ RepA S F H x v ∧ RepA S F H y w := by
  cases ws with
  | nil => exact (show False from h).elim
  | cons w ws =>
    obtain ⟨u, rfl, h2⟩ := repAs_one (ws := ws) h.2
    exact ⟨w, u, rfl, h.1, h2⟩
theorem sees_ok {μ : Nat → Addr} {F H : Hp} {M : Mem} (hM : MemR S μ F M H) : ∀ {vs : List Val} {ws : List V} {xs : List D}, RepVs S F μ M.length vs ws → sees M vs = some xs → RepAs S F H xs ws
  | [], ws, xs, h, e => by
    have e := Option.some.inj e
    subst e
    rw [h.nil]
    trivial
  | v :: vs, ws, xs, h, e => by
    obtain ⟨w, us, rfl, h1, h2⟩ := h.cons
    obtain ⟨y, ys, rfl, e1, e2⟩ := sees_cons e
    exact ⟨see_ok hM h1 e1, sees_ok hM h2 e2⟩
def Many0 (S : Sta) (o : Op) (r : List V → Hp → VK → Prop) : Prop := ∀ (F H : Hp) (ws : List V) (xs : List D) (z : D) (Q : VK), Ex F H → RepAs S F H xs ws → opD o xs = some z → Gives S F H z Q → r ws H Q
theorem rE_many {o : Op} {es : IEs} {r : List V → Hp → VK → Prop} (ho : o.keeps = false) (h : Many0 S o r) {σ : Sl} {H : Hp} {Q : VK} (q : rE S C W (.op o es) σ H Q) : tCB r (rA S C W es) σ H Q := by
  obtain ⟨μ, F, env, M, res, hM, hE, hd, hk⟩ := q
  unfold denE at hd
  refine rA_bnd hM hE hd hk fun μ1 F1 H1 vs M1 ws a1 m1 e1 q1 h1 k1 => ?_
  obtain ⟨xs, z, s1, s2, rfl⟩ := runOp_see ho h1
  exact h F1 H1 ws xs z Q m1.sub (sees_ok m1 q1 s1) s2 (gives_of m1 k1)

/-! ### calls of defs -/
def KF (S : Sta) (μ : Nat → Addr) (F H : Hp) (k : Nat) (Q : VK) (E : XK) : R Val → Prop
  | .ok v M => ∀ μ' F' H' w, Aft μ F H k μ' F' H' M.length → MemR S μ' F' M H' → RepV S F' μ' M.length v w → Q w H'
  | .ex x M => ∀ μ' F' H' cls d, Aft μ F H k μ' F' H' M.length → MemR S μ' F' M H' → RepX S F' x cls d → E cls d H'
/-- a def's promise: what the oracle says -/
def spF (S : Sta) (C : Orc) (f : Nat) : Sp := fun vs H Q E => ∃ μ F as M r, MemR S μ F M H ∧ RepVs S F μ M.length as vs ∧ C f as M = some r ∧ KF S μ F H M.length Q E r
theorem rE_call {f : Nat} {es : IEs} {σ : Sl} {H : Hp} {Q : VK} (q : rE S C W (.call f es) σ H Q) : rA S C W es σ H fun vs H1 => spF S C f vs H1 Q (WE W σ) := by
  obtain ⟨μ, F, env, M, res, hM, hE, hd, hk⟩ := q
  unfold denE at hd
  refine rA_bnd hM hE hd hk fun μ1 F1 H1 vs M1 ws a1 m1 e1 q1 h1 k1 => ?_
  refine ⟨μ1, F1, vs, M1, res, m1, q1, h1, ?_⟩
  cases res with
  | ok v M2 => exact k1
  | ex x M2 => exact k1
theorem run_own {CX : CXT} {k : Nat} {f : Addr} {sp : Sp} {E : Sl → XK} {pins : List (Addr × Obj)} {σ : Sl} {H : Hp} {s : Shared} {Q : VK} {us : List Value} {vs : List V}
    (G : FnR X.prog X.w X.K X.mg X.base CX k f sp) (hr : Room k X.A) (hx : ∀ σ, PassesAt CX X σ (E σ)) (I : Inv X pins σ H s) (r : Vals vs us) (h : sp vs H Q (E σ)) :
    wpAny (model X.prog X.w) X.A (call (.ref f) us) (EP X pins σ Q) X.xe s := by
  refine wpAny_call (codeAny_mono (G X.A X.stack s H us vs Q (E σ) hr I.env0 r h) fun res s1 hq => ?_)
  rcases res with e | fl
  · exact hx σ pins H s e s1 I hq
  · cases fl with
    | ret u => exact I.after hq
    | next | brk | cont => exact False.elim hq
theorem pe_own {CX : CXT} {k : Nat} {f : Addr} {sp : Sp} {E : Sl → XK} {x : Str} {e : Expr} {es : List Expr} {t : TA} {p pos : Pos} (G : FnR X.prog X.w X.K X.mg X.base CX k f sp) (hr : Room k X.A) (hg : Gl X x) (hm : X.mg x = some (.ref f))
    (hk : PySem.W.keepIn X.K (.ref f) = true) (hx : ∀ σ, PassesAt CX X σ (E σ)) (ha : PA X (e :: es) t) (hdb : (x == ("__debug__" : Str)) = false) (he : starEach (e :: es) X.env = (false, eval e X.env) :: starEach es X.env)
    (hpl : (backTo pos (starEach es X.env)).any (·.1) = false) : PE X (.Call (.Name x p) (e :: es) [] pos) (fun σ H Q => t σ H fun vs H1 => sp vs H1 Q (E σ)) := by
  refine ⟨fun pins s σ H Q I h => wpAny_Call_Name_kw (ld_glob I hg hm ?_ hdb)⟩
  exact PySem.W.callWith_K (h₀ := X.base) I.ok.mod.kin hk (thn (ha.run pos pins s σ H _ I h) fun us s1 ⟨vs, H1, I1, r, q⟩ => ⟨I1.kIn, run_own G hr hx I1 r q⟩) he hpl
theorem pe_own0 {CX : CXT} {k : Nat} {f : Addr} {sp : Sp} {E : Sl → XK} {x : Str} {p pos : Pos} (G : FnR X.prog X.w X.K X.mg X.base CX k f sp) (hr : Room k X.A) (hg : Gl X x) (hm : X.mg x = some (.ref f))
    (hk : PySem.W.keepIn X.K (.ref f) = true) (hx : ∀ σ, PassesAt CX X σ (E σ)) (hdb : (x == ("__debug__" : Str)) = false) : PE X (.Call (.Name x p) [] [] pos) (fun σ H Q => sp [] H Q (E σ)) := by
  refine ⟨fun pins s σ H Q I h => wpAny_Call_Name_kw (ld_glob I hg hm ?_ hdb)⟩
  exact PySem.W.callWith_K0 I.kIn hk (run_own (us := []) G hr hx I .nil h)

/-! ### truth -/
theorem asB_rep {F : Hp} {μ : Nat → Addr} {k : Nat} {v : Val} {w : V} {b : Bool} (h : RepV S F μ k v w) (e : asB v = some b) : w = .bl b := by
  have e := asB_eq e
  subst e
  exact repD_bl (S := S) (F := F) h
theorem rE_and {a b : IE} {σ : Sl} {H : Hp} {Q : VK} (q : rE S C W (.and a b) σ H Q) : tAndV (rE S C W a) (rE S C W b) σ H Q := by
  obtain ⟨μ, F, env, M, r, hM, hE, hd, hk⟩ := q
  unfold denE at hd
  refine rE_bnd hM hE hd hk fun μ1 F1 H1 v M1 w a1 m1 e1 q1 h1 k1 => ?_
  cases hv : asB v with
  | none => rw [hv] at h1; cases h1
  | some c =>
    simp only [hv] at h1
    refine ⟨c, asB_rep q1 hv, ?_⟩
    cases c with
    | true =>
      rw [if_pos rfl]
      refine rE_bnd m1 e1 h1 k1 fun μ2 F2 H2 u M2 w2 a2 m2 e2 q2 h2 k2 => ?_
      cases hu : asB u with
      | none => rw [hu] at h2; cases h2
      | some c =>
        simp only [hu] at h2
        have h2 := Option.some.inj h2
        subst h2
        rw [asB_rep q2 hu]
        exact k2 μ2 F2 H2 (.bl c) Aft.refl m2 (rep_bl (S := S) (F := F2))
    | false =>
      rw [if_neg (by decide)]
      have h1 := Option.some.inj h1
      subst h1
      exact k1 μ1 F1 H1 _ Aft.refl m1 (rep_bl (S := S) (F := F1))
theorem rE_or {a b : IE} {σ : Sl} {H : Hp} {Q : VK} (q : rE S C W (.or a b) σ H Q) : tOrV (rE S C W a) (rE S C W b) σ H Q := by
  obtain ⟨μ, F, env, M, r, hM, hE, hd, hk⟩ := q
  unfold denE at hd
  refine rE_bnd hM hE hd hk fun μ1 F1 H1 v M1 w a1 m1 e1 q1 h1 k1 => ?_
  cases hv : asB v with
  | none => rw [hv] at h1; cases h1
  | some c =>
    simp only [hv] at h1
    refine ⟨c, asB_rep q1 hv, ?_⟩
    cases c with
    | false =>
      rw [if_neg (by decide)]
      refine rE_bnd m1 e1 h1 k1 fun μ2 F2 H2 u M2 w2 a2 m2 e2 q2 h2 k2 => ?_
      cases hu : asB u with
      | none => rw [hu] at h2; cases h2
      | some c =>
        simp only [hu] at h2
        have h2 := Option.some.inj h2
        subst h2
        rw [asB_rep q2 hu]
        exact k2 μ2 F2 H2 (.bl c) Aft.refl m2 (rep_bl (S := S) (F := F2))
    | true =>
      rw [if_pos rfl]
      have h1 := Option.some.inj h1
      subst h1
      exact k1 μ1 F1 H1 _ Aft.refl m1 (rep_bl (S := S) (F := F1))
theorem rE_not {a : IE} {σ : Sl} {H : Hp} {Q : VK} (q : rE S C W (.not a) σ H Q) : tNotV (rE S C W a) σ H Q := by
  obtain ⟨μ, F, env, M, r, hM, hE, hd, hk⟩ := q
  unfold denE at hd
  refine rE_bnd hM hE hd hk fun μ1 F1 H1 v M1 w a1 m1 e1 q1 h1 k1 => ?_
  cases hv : asB v with
  | none => rw [hv] at h1; cases h1
  | some c =>
    simp only [hv] at h1
    have h1 := Option.some.inj h1
    subst h1
    exact ⟨c, asB_rep q1 hv, k1 μ1 F1 H1 _ Aft.refl m1 (rep_bl (S := S) (F := F1))⟩
/-- a test's reading, from the value's -/
theorem rB_val {a : IE} {σ : Sl} {H : Hp} {Q : Bool → Hp → Prop} (q : rB S C W a σ H Q) : rE S C W a σ H fun x H' => ∃ k, x = .bl k ∧ Q k H' := by
  obtain ⟨μ, F, env, M, r, hM, hE, hd, hk⟩ := q
  unfold denB at hd
  rcases bnd_eq hd with ⟨v, M1, e1, h1⟩ | ⟨x, M1, e1, e2⟩
  · refine ⟨μ, F, env, M, _, hM, hE, e1, fun μ1 F1 H1 w a1 m1 q1 => ?_⟩
    cases hv : asB v with
    | none => rw [hv] at h1; cases h1
    | some c =>
      simp only [hv] at h1
      have h1 := Option.some.inj h1
      subst h1
      exact ⟨c, asB_rep q1 hv, hk μ1 F1 H1 a1 m1⟩
  · subst e2
    exact ⟨μ, F, env, M, _, hM, hE, e1, hk⟩
theorem pt_valI {e : Expr} {ie : IE} (h : PE X e (rE S C W ie)) (he : ∀ whole, isTrue e X.env whole = (do let v ← whole; standAt e.pos; holding [v] (truthy v))) : PT X e (rB S C W ie) :=
  ptI (pt_val h he) fun _ _ _ q => rB_val q
/-- a test ahead of the rest -/
theorem rB_bnd {e : IE} {σ : Sl} {H : Hp} {μ : Nat → Addr} {F : Hp} {env : Env} {M : Mem} {β : Type} {k : Bool → Mem → Option (R β)} {r : R β} {Q1 : Bool → Hp → Prop} {KK : (Nat → Addr) → Hp → Hp → Nat → R β → Prop}
    (hM : MemR S μ F M H) (hE : EnvR S μ F M.length env σ) (hd : bnd (denB C e env M) k = some r) (hk : KK μ F H M.length r) (weak : ∀ μ1 F1 H1 k1, Aft μ F H M.length μ1 F1 H1 k1 → KK μ1 F1 H1 k1 r)
    (ex : ∀ x M1, r = .ex x M1 → KB S W μ F H M.length σ Q1 (.ex x M1))
    (next : ∀ μ1 F1 H1 b M1, Aft μ F H M.length μ1 F1 H1 M1.length → MemR S μ1 F1 M1 H1 → EnvR S μ1 F1 M1.length env σ → k b M1 = some r → KK μ1 F1 H1 M1.length r → Q1 b H1) :
    rB S C W e σ H Q1 := by
  rcases bnd_eq hd with ⟨b, M1, e1, h1⟩ | ⟨x, M1, e1, e2⟩
  · exact ⟨μ, F, env, M, _, hM, hE, e1, fun μ1 F1 H1 a m => next μ1 F1 H1 b M1 a m (hE.aft a) h1 (weak _ _ _ _ a)⟩
  · exact ⟨μ, F, env, M, _, hM, hE, e1, ex x M1 e2⟩
/-- how the test of a combination reads -/
theorem denB_not {a : IE} {env : Env} {M : Mem} : denB C (.not a) env M = bnd (denB C a env M) fun b M1 => some (.ok (!b) M1) := by
  unfold denB
  rw [denE]
  cases denE C a env M with
  | none => rfl
  | some r =>
    cases r with
    | ex x M1 => rfl
    | ok v M1 =>
      simp only [bnd_ok]
      cases asB v with
      | none => rfl
      | some c => rfl
theorem denB_and {a b : IE} {env : Env} {M : Mem} : denB C (.and a b) env M = bnd (denB C a env M) fun c M1 => if c = true then denB C b env M1 else some (.ok false M1) := by
  unfold denB
  rw [denE]
  cases denE C a env M with
  | none => rfl
  | some r =>
    cases r with
    | ex x M1 => rfl
    | ok v M1 =>
      simp only [bnd_ok]
      cases asB v with
      | none => rfl
      | some c =>
        cases c with
        | false => rfl
        | true =>
          simp only [bnd_ok, if_true]
          cases denE C b env M1 with
          | none => rfl
          | some r2 =>
            cases r2 with
            | ex x M2 => rfl
            | ok w M2 =>
              simp only [bnd_ok]
              cases asB w <;> rfl
theorem denB_or {a b : IE} {env : Env} {M : Mem} : denB C (.or a b) env M = bnd (denB C a env M) fun c M1 => if c = true then some (.ok true M1) else denB C b env M1 := by
  unfold denB
  rw [denE]
  cases denE C a env M with
  | none => rfl
  | some r =>
    cases r with
    | ex x M1 => rfl
    | ok v M1 =>
      simp only [bnd_ok]
      cases asB v with
      | none => rfl
      | some c =>
        cases c with
        | true => rfl
        | false =>
          simp only [bnd_ok, Bool.false_eq_true, if_false]
          cases denE C b env M1 with
          | none => rfl
          | some r2 =>
            cases r2 with
            | ex x M2 => rfl
            | ok w M2 =>
              simp only [bnd_ok]
              cases asB w <;> rfl
theorem rB_not {a : IE} {σ : Sl} {H : Hp} {Q : Bool → Hp → Prop} (q : rB S C W (.not a) σ H Q) : tNot (rB S C W a) σ H Q := by
  obtain ⟨μ, F, env, M, r, hM, hE, hd, hk⟩ := q
  rw [denB_not] at hd
  refine rB_bnd (KK := fun μ F H k r => KB S W μ F H k σ Q r) hM hE hd hk (fun _ _ _ _ a => hk.weak a) (fun x M1 e => by subst e; exact hk) fun μ1 F1 H1 b M1 a1 m1 e1 h1 k1 => ?_
  have h1 := Option.some.inj h1
  subst h1
  exact k1 μ1 F1 H1 Aft.refl m1
theorem rB_and {a b : IE} {σ : Sl} {H : Hp} {Q : Bool → Hp → Prop} (q : rB S C W (.and a b) σ H Q) : tAnd (rB S C W a) (rB S C W b) σ H Q := by
  obtain ⟨μ, F, env, M, r, hM, hE, hd, hk⟩ := q
  rw [denB_and] at hd
  refine rB_bnd (KK := fun μ F H k r => KB S W μ F H k σ Q r) hM hE hd hk (fun _ _ _ _ a => hk.weak a) (fun x M1 e => by subst e; exact hk) fun μ1 F1 H1 c M1 a1 m1 e1 h1 k1 => ?_
  cases c with
  | true => exact ⟨μ1, F1, env, M1, r, m1, e1, h1, k1⟩
  | false =>
    have h1 := Option.some.inj h1
    subst h1
    exact k1 μ1 F1 H1 Aft.refl m1
theorem rB_or {a b : IE} {σ : Sl} {H : Hp} {Q : Bool → Hp → Prop} (q : rB S C W (.or a b) σ H Q) : tOr (rB S C W a) (rB S C W b) σ H Q := by
  obtain ⟨μ, F, env, M, r, hM, hE, hd, hk⟩ := q
  rw [denB_or] at hd
  refine rB_bnd (KK := fun μ F H k r => KB S W μ F H k σ Q r) hM hE hd hk (fun _ _ _ _ a => hk.weak a) (fun x M1 e => by subst e; exact hk) fun μ1 F1 H1 c M1 a1 m1 e1 h1 k1 => ?_
  cases c with
  | false => exact ⟨μ1, F1, env, M1, r, m1, e1, h1, k1⟩
  | true =>
    have h1 := Option.some.inj h1
    subst h1
    exact k1 μ1 F1 H1 Aft.refl m1
/-- a if c else b -/
theorem denE_ife {c a b : IE} {env : Env} {M : Mem} : denE C (.ife c a b) env M = bnd (denB C c env M) fun t M1 => if t = true then denE C a env M1 else denE C b env M1 := by
  unfold denB
  rw [denE]
  cases denE C c env M with
  | none => rfl
  | some r =>
    cases r with
    | ex x M1 => rfl
    | ok v M1 =>
      simp only [bnd_ok]
      cases asB v with
      | none => rfl
      | some c => cases c <;> rfl
theorem rE_ife {c a b : IE} {σ : Sl} {H : Hp} {Q : VK} (q : rE S C W (.ife c a b) σ H Q) : tIf (rB S C W c) (rE S C W a) (rE S C W b) σ H Q := by
  obtain ⟨μ, F, env, M, r, hM, hE, hd, hk⟩ := q
  rw [denE_ife] at hd
  refine rB_bnd (KK := fun μ F H k r => KE S W μ F H k σ Q r) hM hE hd hk (fun _ _ _ _ a => hk.weak a) (fun x M1 e => by subst e; exact hk) fun μ1 F1 H1 t M1 a1 m1 e1 h1 k1 => ?_
  cases t with
  | true => exact ⟨μ1, F1, env, M1, r, m1, e1, h1, k1⟩
  | false => exact ⟨μ1, F1, env, M1, r, m1, e1, h1, k1⟩
end
end PyI

/-! PyI 5: the operations, one by one. -/
namespace PyI
open PySem PySem.Spec PyProof.Rows L2
open Evl (Ex)
section
variable {S : Sta} {C : Orc} {W : WX} {X : Cx}
theorem opR_or {f : Value → Value → Sem Value} {r r' : R2} (h : OpR X f r) (h' : OpR X f r') : OpR X f (fun x y H Q => r x y H Q ∨ r' x y H Q) := by
  intro pins s σ H x y v u Q I rx ry q
  rcases q with q | q
  · exact h pins s σ H x y v u Q I rx ry q
  · exact h' pins s σ H x y v u Q I rx ry q
theorem Gives.now {F H : Hp} {z : D} {Q : VK} {v : V} (h : Gives S F H z Q) (e : Ex F H) (r : RepD S F z v) : Q v H := h F H v (Grow.same e) r
/-- two ints, one way to the result -/
theorem opD_int2 {o : Op} {d e z : D} (h : opD o [d, e] = some z) (ho : ∀ d e, (∀ i j, ¬ (d = .int i ∧ e = .int j)) → opD o [d, e] = none) : ∃ i j, d = .int i ∧ e = .int j := by
  by_cases q : ∃ i j, d = D.int i ∧ e = D.int j
  · exact q
  · rw [ho d e fun i j z => q ⟨i, j, z.1, z.2⟩] at h
    cases h
theorem int2_none {o : Op} (h : o = .sub ∨ o = .fdiv ∨ o = .mod ∨ o = .pow ∨ o = .lt ∨ o = .le ∨ o = .gt ∨ o = .ge) : ∀ d e : D, (∀ i j, ¬ (d = .int i ∧ e = .int j)) → opD o [d, e] = none := by
  intro d e q
  rcases h with rfl | rfl | rfl | rfl | rfl | rfl | rfl | rfl <;>
    (cases d with
    | int i =>
      cases e with
      | int j => exact absurd ⟨rfl, rfl⟩ (q i j)
      | _ => rfl
    | _ => rfl)
def rAdd3 (K : PySem.W.Frag) : R2 := fun x y H Q => (∃ i j, x = .str i ∧ y = .str j ∧ i.length + j.length ≤ sizeLine ∧ Q (.str (i ++ j)) H) ∨ (rI0 (fun i j => .int (i + j)) x y H Q ∨ (rCat x y H Q ∨ rCatA K x y H Q))
theorem two_add : Two0 S .add (rAdd3 S.K) := by
  intro F H x y d e z Q ex hx hy h g
  cases d with
  | int i =>
    cases e with
    | int j =>
      have h : some (D.int (i + j)) = some z := h
      cases h
      exact .inr (.inl ⟨i, j, repD_int (S := S) (F := F) hx, repD_int (S := S) (F := F) hy, g.now ex (rep_int (S := S) (F := F))⟩)
    | _ => cases h
  | str a =>
    cases e with
    | str b =>
      have h : (if a.length + b.length ≤ sizeLine then some (D.str (a ++ b)) else none) = some z := h
      split at h
      · rename_i hz
        cases h
        exact .inl ⟨a, b, repD_str (S := S) (F := F) hx, repD_str (S := S) (F := F) hy, hz, g.now ex (rep_str (S := S) (F := F))⟩
      · cases h
    | _ => cases h
  | lst xs =>
    cases e with
    | lst ys =>
      have h : (if xs.length + ys.length ≤ sizeLine then some (D.lst (xs ++ ys)) else none) = some z := h
      split at h
      · rename_i hz
        cases h
        obtain ⟨a, vs, rfl, h1, h2⟩ := hx
        obtain ⟨b, ws, rfl, k1, k2⟩ := hy
        refine .inr (.inr (.inl ⟨a, b, vs, ws, rfl, rfl, h1, k1, by rw [← repL_len h2, ← repL_len k2]; exact hz, fun p hp => ?_⟩))
        have gr := Grow.one ex (.lst (vs ++ ws)) hp
        exact g _ _ _ gr (rep_lst upd_same (repL_ex gr.f _ (repL_app h2 k2)))
      · cases h
    | _ => cases h
  | tup xs =>
    cases e with
    | tup ys =>
      have h : (if xs.length + ys.length ≤ sizeLine then some (D.tup (xs ++ ys)) else none) = some z := h
      split at h
      · rename_i hz
        cases h
        obtain ⟨a, vs, rfl, h1, h2⟩ := repD_tup hx
        obtain ⟨b, ws, rfl, k1, k2⟩ := repD_tup hy
        refine .inr (.inr (.inr ⟨a, b, vs, ws, rfl, rfl, Evl.ex_t ex h1, Evl.ex_t ex k1, by rw [← repL_len h2, ← repL_len k2]; exact hz, fun e => ?_, fun _ e => ?_, fun _ _ p hp => ?_⟩))
        · subst e
          have z : xs = [] := List.length_eq_zero_iff.mp (by rw [repL_len h2] <;> rfl)
          subst z
          exact g.now ex (rep_tup k1 k2)
        · subst e
          have z : ys = [] := List.length_eq_zero_iff.mp (by rw [repL_len k2] <;> rfl)
          subst z
          rw [List.append_nil] at g
          exact g.now ex (rep_tup h1 h2)
        · have gr := Grow.one ex (.tup (vs ++ ws)) hp
          exact g _ _ _ gr (rep_tup (Evl.st_of upd_same) (repL_ex gr.f _ (repL_app h2 k2)))
      · cases h
    | _ => cases h
  | _ => cases h
theorem two_sub : Two0 S .sub (rI0 fun i j => .int (i - j)) := by
  intro F H x y d e z Q ex hx hy h g
  obtain ⟨i, j, rfl, rfl⟩ := opD_int2 h (int2_none (by simp))
  have h : some (D.int (i - j)) = some z := h
  cases h
  exact ⟨i, j, repD_int (S := S) (F := F) hx, repD_int (S := S) (F := F) hy, g.now ex (rep_int (S := S) (F := F))⟩
theorem mulOk_or {i j : Int} (h : mulOk i j = true) : CMul i j ∨ CMulW i j := by
  unfold mulOk at h
  simp only [Bool.or_eq_true, Bool.and_eq_true, decide_eq_true_eq] at h
  rcases h with (h | h) | h
  · exact .inl (.inl h)
  · exact .inl (.inr h)
  · exact .inr h
theorem repL_rep {F : Hp} {xs : List D} {vs : List V} (h : RepL S F xs vs) : ∀ n : Nat, RepL S F (List.replicate n xs).flatten (List.replicate n vs).flatten
  | 0 => repL_emp
  | n + 1 => by
    rw [List.replicate_succ, List.replicate_succ, List.flatten_cons, List.flatten_cons]
    exact repL_app h (repL_rep h n)
def rMul3 : R2 := fun x y H Q => (rI CMul (fun i j => .int (i * j)) x y H Q ∨ rI CMulW (fun i j => .int (i * j)) x y H Q) ∨ rRep x y H Q
theorem two_mul : Two0 S .mul rMul3 := by
  intro F H x y d e z Q ex hx hy h g
  cases e with
  | int j =>
    cases d with
    | int i =>
      have h : (if mulOk i j = true then some (D.int (i * j)) else none) = some z := h
      split at h
      · rename_i hm
        cases h
        rcases mulOk_or hm with hm | hm
        · exact .inl (.inl ⟨i, j, repD_int (S := S) (F := F) hx, repD_int (S := S) (F := F) hy, hm, g.now ex (rep_int (S := S) (F := F))⟩)
        · exact .inl (.inr ⟨i, j, repD_int (S := S) (F := F) hx, repD_int (S := S) (F := F) hy, hm, g.now ex (rep_int (S := S) (F := F))⟩)
      · cases h
    | lst xs =>
      have h : @ite _ (-(2 ^ 63) ≤ j ∧ j < 2 ^ 63 ∧ xs.length * j.toNat ≤ sizeLine) (Classical.propDecidable _) (some (D.lst (List.replicate j.toNat xs).flatten)) none = some z := h
      split at h
      · rename_i hm
        cases h
        obtain ⟨a, vs, rfl, h1, h2⟩ := hx
        refine .inr ⟨a, j, vs, rfl, repD_int (S := S) (F := F) hy, h1, hm.1, hm.2.1, by rw [← repL_len h2]; exact hm.2.2, fun p hp => ?_⟩
        have gr := Grow.one ex (.lst (List.replicate j.toNat vs).flatten) hp
        exact g _ _ _ gr (rep_lst upd_same (repL_ex gr.f _ (repL_rep h2 _)))
      · cases h
    | _ => cases h
  | _ => cases d <;> cases h
theorem two_fdiv : Two0 S .fdiv (rI CDivW fun i j => .int (i / j)) := by
  intro F H x y d e z Q ex hx hy h g
  obtain ⟨i, j, rfl, rfl⟩ := opD_int2 h (int2_none (by simp))
  have h : (if divOk j = true then some (D.int (i / j)) else none) = some z := h
  split at h
  · rename_i hm
    cases h
    unfold divOk at hm
    simp only [Bool.and_eq_true, decide_eq_true_eq] at hm
    exact ⟨i, j, repD_int (S := S) (F := F) hx, repD_int (S := S) (F := F) hy, hm, g.now ex (rep_int (S := S) (F := F))⟩
  · cases h
theorem two_mod : Two0 S .mod (fun x y H Q => rI (fun _ j => 0 < j) (fun i j => .int (i % j)) x y H Q ∨ rI (fun _ j => j ≠ 0) (fun i j => .int (i.fmod j)) x y H Q) := by
  intro F H x y d e z Q ex hx hy h g
  obtain ⟨i, j, rfl, rfl⟩ := opD_int2 h (int2_none (by simp))
  have h : (if 0 < j then some (D.int (i % j)) else if j ≠ 0 then some (D.int (i.fmod j)) else none) = some z := h
  split at h
  · rename_i hm
    cases h
    exact .inl ⟨i, j, repD_int (S := S) (F := F) hx, repD_int (S := S) (F := F) hy, hm, g.now ex (rep_int (S := S) (F := F))⟩
  · split at h
    · rename_i hm
      cases h
      exact .inr ⟨i, j, repD_int (S := S) (F := F) hx, repD_int (S := S) (F := F) hy, hm, g.now ex (rep_int (S := S) (F := F))⟩
    · cases h
theorem two_pow : Two0 S .pow (rI CPow fun i j => .int (i ^ j.toNat)) := by
  intro F H x y d e z Q ex hx hy h g
  obtain ⟨i, j, rfl, rfl⟩ := opD_int2 h (int2_none (by simp))
  have h : (if powOk i j = true then some (D.int (i ^ j.toNat)) else none) = some z := h
  split at h
  · rename_i hm
    cases h
    unfold powOk at hm
    simp only [Bool.and_eq_true, decide_eq_true_eq] at hm
    exact ⟨i, j, repD_int (S := S) (F := F) hx, repD_int (S := S) (F := F) hy, ⟨hm.1.1, hm.1.2, hm.2⟩, g.now ex (rep_int (S := S) (F := F))⟩
  · cases h
theorem one_neg : One0 S .neg (rU fun i => .int (-i)) := by
  intro F H x d z Q ex hx h g
  cases d with
  | int i =>
    have h : some (D.int (-i)) = some z := h
    cases h
    exact ⟨i, repD_int (S := S) (F := F) hx, g.now ex (rep_int (S := S) (F := F))⟩
  | _ => cases h
theorem two_lt : Two0 S .lt (rI0 fun i j => .bl (decide (i < j))) := by
  intro F H x y d e z Q ex hx hy h g
  obtain ⟨i, j, rfl, rfl⟩ := opD_int2 h (int2_none (by simp))
  have h : some (D.bl (decide (i < j))) = some z := h
  cases h
  exact ⟨i, j, repD_int (S := S) (F := F) hx, repD_int (S := S) (F := F) hy, g.now ex (rep_bl (S := S) (F := F))⟩
theorem two_le : Two0 S .le (rI0 fun i j => .bl (decide (i ≤ j))) := by
  intro F H x y d e z Q ex hx hy h g
  obtain ⟨i, j, rfl, rfl⟩ := opD_int2 h (int2_none (by simp))
  have h : some (D.bl (decide (i ≤ j))) = some z := h
  cases h
  exact ⟨i, j, repD_int (S := S) (F := F) hx, repD_int (S := S) (F := F) hy, g.now ex (rep_bl (S := S) (F := F))⟩
theorem two_gt : Two0 S .gt (rI0 fun i j => .bl (decide (j < i))) := by
  intro F H x y d e z Q ex hx hy h g
  obtain ⟨i, j, rfl, rfl⟩ := opD_int2 h (int2_none (by simp))
  have h : some (D.bl (decide (j < i))) = some z := h
  cases h
  exact ⟨i, j, repD_int (S := S) (F := F) hx, repD_int (S := S) (F := F) hy, g.now ex (rep_bl (S := S) (F := F))⟩
theorem two_ge : Two0 S .ge (rI0 fun i j => .bl (decide (j ≤ i))) := by
  intro F H x y d e z Q ex hx hy h g
  obtain ⟨i, j, rfl, rfl⟩ := opD_int2 h (int2_none (by simp))
  have h : some (D.bl (decide (j ≤ i))) = some z := h
  cases h
  exact ⟨i, j, repD_int (S := S) (F := F) hx, repD_int (S := S) (F := F) hy, g.now ex (rep_bl (S := S) (F := F))⟩

/-! ### == -/
theorem toPs_cons {x : D} {xs : List D} {ps : List PyData} (h : toPs (x :: xs) = some ps) : ∃ p qs, ps = p :: qs ∧ x.toP = some p ∧ toPs xs = some qs := by
  unfold toPs at h
  cases e1 : x.toP with
  | none => rw [e1] at h; cases h
  | some p =>
    rw [e1] at h
    cases e2 : toPs xs with
    | none => simp only [e2] at h; cases h
    | some qs =>
      simp only [e2] at h
      exact ⟨p, qs, (Option.some.inj h).symm, rfl, rfl⟩
mutual
theorem dp_of {F : Hp} : ∀ (x : D) {v : V} {p : PyData}, RepD S F x v → x.toP = some p → Dp S.K F v p
  | .non, v, p, h, e => by
    rw [repD_non (S := S) (F := F) h]
    have e : some PyData.none = some p := by simpa only [D.toP] using e
    cases e
    exact .non
  | .bl b, v, p, h, e => by
    rw [repD_bl (S := S) (F := F) h]
    have e : some (PyData.bool b) = some p := by simpa only [D.toP] using e
    cases e
    exact .bl b
  | .int b, v, p, h, e => by
    rw [repD_int (S := S) (F := F) h]
    have e : some (PyData.int b) = some p := by simpa only [D.toP] using e
    cases e
    exact .int b
  | .str b, v, p, h, e => by
    rw [repD_str (S := S) (F := F) h]
    have e : some (PyData.str b) = some p := by simpa only [D.toP] using e
    cases e
    exact .str b
  | .tup xs, v, p, h, e => by
    obtain ⟨a, vs, rfl, h1, h2⟩ := repD_tup h
    have e : (toPs xs).map PyData.tuple = some p := by simpa only [D.toP] using e
    cases e2 : toPs xs with
    | none => rw [e2] at e; cases e
    | some ps =>
      rw [e2] at e
      cases e
      exact .tup h1 (dps_of xs h2 e2)
  | .lst xs, v, p, h, e => by
    obtain ⟨a, vs, rfl, h1, h2⟩ := repD_lst h
    have e : (toPs xs).map PyData.list = some p := by simpa only [D.toP] using e
    cases e2 : toPs xs with
    | none => rw [e2] at e; cases e
    | some ps =>
      rw [e2] at e
      cases e
      exact .lst (Evl.sq_of h1) (dps_of xs h2 e2)
  | .frl xs, v, p, h, e => by
    obtain ⟨a, vs, rfl, h1, h2⟩ := repD_frl h
    have e : (toPs xs).map PyData.list = some p := by simpa only [D.toP] using e
    cases e2 : toPs xs with
    | none => rw [e2] at e; cases e
    | some ps =>
      rw [e2] at e
      cases e
      exact .lst h1 (dps_of xs h2 e2)
  | .emp, v, p, h, e => by simp only [D.toP] at e; cases e
  | .ins c xs, v, p, h, e => by simp only [D.toP] at e; cases e
theorem dps_of {F : Hp} : ∀ (xs : List D) {vs : List V} {ps : List PyData}, RepL S F xs vs → toPs xs = some ps → DpAll S.K F vs ps
  | [], vs, ps, h, e => by
    rw [repL_nil h]
    have e : some [] = some ps := by simpa only [toPs] using e
    cases e
    exact .nil
  | x :: xs, vs, ps, h, e => by
    obtain ⟨v, ws, rfl, h1, h2⟩ := repL_cons h
    obtain ⟨p, qs, rfl, e1, e2⟩ := toPs_cons e
    exact .cons (dp_of x h1 e1) (dps_of xs h2 e2)
end
mutual
theorem Dp.up {K : PySem.W.Frag} {H H' : Hp} (e : Ex H H') : ∀ (p : PyData) {v : V}, Dp K H v p → Dp K H' v p
  | _, _, .non => .non
  | _, _, .bl b => .bl b
  | _, _, .int b => .int b
  | _, _, .str b => .str b
  | _, _, .lst h1 h2 => .lst (Evl.ex_l e h1) (DpAll.up e _ h2)
  | _, _, .tup h1 h2 => .tup (Evl.ex_t e h1) (DpAll.up e _ h2)
theorem DpAll.up {K : PySem.W.Frag} {H H' : Hp} (e : Ex H H') : ∀ (ps : List PyData) {vs : List V}, DpAll K H vs ps → DpAll K H' vs ps
  | _, _, .nil => .nil
  | _, _, .cons h1 h2 => .cons (Dp.up e _ h1) (DpAll.up e _ h2)
end
theorem dpA_of {F H : Hp} (ex : Ex F H) {x : D} {v : V} {p : PyData} (h : RepA S F H x v) (e : x.toP = some p) : Dp S.K H v p := by
  cases x with
  | lst xs =>
    obtain ⟨a, vs, rfl, h1, h2⟩ := h
    have e : (toPs xs).map PyData.list = some p := by simpa only [D.toP] using e
    cases e2 : toPs xs with
    | none => rw [e2] at e; cases e
    | some ps =>
      rw [e2] at e
      cases e
      exact .lst (Evl.sq_of h1) (DpAll.up ex _ (dps_of xs h2 e2))
  | _ => exact Dp.up ex _ (dp_of (S := S) (F := F) _ h e)
theorem eqD_some {x y : D} {b : Bool} (h : eqD x y = some b) : ∃ d e, x.toP = some d ∧ y.toP = some e ∧ SeqAt.shaped d = true ∧ SeqAt.shaped e = true ∧ b = PyData.eqv d e := by
  unfold eqD at h
  cases e1 : x.toP with
  | none => rw [e1] at h; cases h
  | some d =>
    cases e2 : y.toP with
    | none => rw [e1, e2] at h; cases h
    | some e =>
      simp only [e1, e2] at h
      split at h
      · rename_i q
        exact ⟨d, e, rfl, rfl, q.1, q.2, (Option.some.inj h).symm⟩
      · cases h
theorem two_eq : Two0 S .eq (rEqD S.K) := by
  intro F H x y d e z Q ex hx hy h g
  have h : (eqD d e).map D.bl = some z := h
  cases q : eqD d e with
  | none => rw [q] at h; cases h
  | some b =>
    rw [q] at h
    cases h
    obtain ⟨p, p', e1, e2, s1, s2, rfl⟩ := eqD_some q
    exact ⟨p, p', dpA_of ex hx e1, dpA_of ex hy e2, s1, s2, g.now ex (rep_bl (S := S) (F := F))⟩
theorem two_ne : Two0 S .ne (rNeD S.K) := by
  intro F H x y d e z Q ex hx hy h g
  have h : (eqD d e).map (fun b => D.bl (!b)) = some z := h
  cases q : eqD d e with
  | none => rw [q] at h; cases h
  | some b =>
    rw [q] at h
    cases h
    obtain ⟨p, p', e1, e2, s1, s2, rfl⟩ := eqD_some q
    exact ⟨p, p', dpA_of ex hx e1, dpA_of ex hy e2, s1, s2, g.now ex (rep_bl (S := S) (F := F))⟩

/-! ### is -/
def rIsI : R2 := fun x y H Q => ∃ (i : Int) (b : Bool), x = .int i ∧ y = .bl b ∧ Q (.bl false) H
def rNotI : R2 := fun x y H Q => ∃ (i : Int) (b : Bool), x = .int i ∧ y = .bl b ∧ Q (.bl true) H
theorem op_isI {X : Cx} : OpR X (compareOp .Is) rIsI := by
  intro pins s σ H x y v u Q I rx ry h
  obtain ⟨a, b, rfl, rfl, q⟩ := h
  obtain ⟨t, rfl⟩ := rx
  cases (show u = Value.bool b from ry)
  exact wpAny_is_other rfl (fun z => nomatch z) ⟨.bl false, H, I, rfl, q⟩
theorem op_notI {X : Cx} : OpR X (compareOp .IsNot) rNotI := by
  intro pins s σ H x y v u Q I rx ry h
  obtain ⟨a, b, rfl, rfl, q⟩ := h
  obtain ⟨t, rfl⟩ := rx
  cases (show u = Value.bool b from ry)
  exact wpAny_isNot_other rfl (fun z => nomatch z) ⟨.bl true, H, I, rfl, q⟩
def rIs1 : R2 := fun x y H Q => (y = .non ∧ Q (.bl (decide (x = .non))) H) ∨ rIsB x y H Q ∨ rIsI x y H Q
def rIs0 : R2 := fun x y H Q => (y = .non ∧ Q (.bl (!decide (x = .non))) H) ∨ rNotB x y H Q ∨ rNotI x y H Q
theorem isD_cases {d e : D} {b : Bool} (h : isD d e = some b) : (e = .non ∧ ((d = .non ∧ b = true) ∨ ((∀ {S : Sta} {F H : Hp} {v : V}, RepA S F H d v → v ≠ .non) ∧ b = false))) ∨ (∃ a a', d = .bl a ∧ e = .bl a' ∧ b = (a == a')) ∨ ∃ i a', d = .int i ∧ e = .bl a' ∧ b = false := by
  cases d with
  | non =>
    cases e with
    | non => exact .inl ⟨rfl, .inl ⟨rfl, by cases h; rfl⟩⟩
    | _ => cases h
  | bl a =>
    cases e with
    | non => exact .inl ⟨rfl, .inr ⟨(fun {S F H v} r => by rw [repD_bl (S := S) (F := F) r]; exact fun z => nomatch z), by cases h; rfl⟩⟩
    | bl a' => exact .inr (.inl ⟨a, a', rfl, rfl, by cases h; rfl⟩)
    | _ => cases h
  | int i =>
    cases e with
    | non => exact .inl ⟨rfl, .inr ⟨(fun {S F H v} r => by rw [repD_int (S := S) (F := F) r]; exact fun z => nomatch z), by cases h; rfl⟩⟩
    | bl a' => exact .inr (.inr ⟨i, a', rfl, rfl, by cases h; rfl⟩)
    | _ => cases h
  | str i =>
    cases e with
    | non => exact .inl ⟨rfl, .inr ⟨(fun {S F H v} r => by rw [repD_str (S := S) (F := F) r]; exact fun z => nomatch z), by cases h; rfl⟩⟩
    | _ => cases h
  | tup i =>
    cases e with
    | non => exact .inl ⟨rfl, .inr ⟨(fun {S F H v} r => by obtain ⟨a, vs, rfl, -⟩ := repD_tup (S := S) (F := F) r; exact fun z => nomatch z), by cases h; rfl⟩⟩
    | _ => cases h
  | lst i =>
    cases e with
    | non => exact .inl ⟨rfl, .inr ⟨(fun {S F H v} r => by obtain ⟨a, vs, rfl, -⟩ := r; exact fun z => nomatch z), by cases h; rfl⟩⟩
    | _ => cases h
  | _ => cases h
theorem two_is : Two0 S .is rIs1 := by
  intro F H x y d e z Q ex hx hy h g
  have h : (isD d e).map D.bl = some z := h
  cases q : isD d e with
  | none => rw [q] at h; cases h
  | some b =>
    rw [q] at h
    cases h
    have gq := g.now ex (rep_bl (S := S) (F := F) (i := b))
    rcases isD_cases q with ⟨rfl, ⟨rfl, rfl⟩ | ⟨nn, rfl⟩⟩ | ⟨a, a', rfl, rfl, rfl⟩ | ⟨i, a', rfl, rfl, rfl⟩
    · refine .inl ⟨repD_non (S := S) (F := F) hy, ?_⟩
      rw [repD_non (S := S) (F := F) hx]
      exact gq
    · refine .inl ⟨repD_non (S := S) (F := F) hy, ?_⟩
      rw [decide_eq_false (nn hx)]
      exact gq
    · refine .inr (.inl ⟨a, a', repD_bl (S := S) (F := F) hx, repD_bl (S := S) (F := F) hy, ?_⟩)
      have e : decide (a = a') = (a == a') := by cases a <;> cases a' <;> rfl
      rw [e]
      exact gq
    · exact .inr (.inr ⟨i, a', repD_int (S := S) (F := F) hx, repD_bl (S := S) (F := F) hy, gq⟩)
theorem two_isnot : Two0 S .isnot rIs0 := by
  intro F H x y d e z Q ex hx hy h g
  have h : (isD d e).map (fun b => D.bl (!b)) = some z := h
  cases q : isD d e with
  | none => rw [q] at h; cases h
  | some b =>
    rw [q] at h
    cases h
    have gq := g.now ex (rep_bl (S := S) (F := F) (i := !b))
    rcases isD_cases q with ⟨rfl, ⟨rfl, rfl⟩ | ⟨nn, rfl⟩⟩ | ⟨a, a', rfl, rfl, rfl⟩ | ⟨i, a', rfl, rfl, rfl⟩
    · refine .inl ⟨repD_non (S := S) (F := F) hy, ?_⟩
      rw [repD_non (S := S) (F := F) hx]
      exact gq
    · refine .inl ⟨repD_non (S := S) (F := F) hy, ?_⟩
      rw [decide_eq_false (nn hx)]
      exact gq
    · refine .inr (.inl ⟨a, a', repD_bl (S := S) (F := F) hx, repD_bl (S := S) (F := F) hy, ?_⟩)
      have e : (!decide (a = a')) = !(a == a') := by cases a <;> cases a' <;> rfl
      rw [e]
      exact gq
    · exact .inr (.inr ⟨i, a', repD_int (S := S) (F := F) hx, repD_bl (S := S) (F := F) hy, gq⟩)

/-! ### places, lengths -/
theorem items_cases {x : D} {xs : List D} (h : items x = some xs) : x = .lst xs ∨ x = .tup xs ∨ x = .frl xs := by
  cases x with
  | lst ys => cases h; exact .inl rfl
  | tup ys => cases h; exact .inr (.inl rfl)
  | frl ys => cases h; exact .inr (.inr rfl)
  | _ => cases h
theorem repL_at {F : Hp} {xs : List D} {vs : List V} {i : Int} {z : D} (h : RepL S F xs vs) (e : atI xs i = some z) : ∃ v, atI vs i = some v ∧ RepD S F z v := by
  unfold atI at e ⊢
  rw [← repL_len h]
  cases q : ixN xs.length i with
  | none => rw [q] at e; cases e
  | some j =>
    rw [q] at e
    exact repL_get h e
theorem two_ix : Two0 S .ix (fun x y H Q => rIxL S.K x y H Q ∨ rIxT S.K x y H Q) := by
  intro F H x y d e z Q ex hx hy h g
  cases e with
  | int i =>
    have h : (items d).bind (fun xs => atI xs i) = some z := h
    cases q : items d with
    | none => rw [q] at h; cases h
    | some xs =>
      rw [q] at h
      have h : atI xs i = some z := h
      rcases items_cases q with rfl | rfl | rfl
      rotate_right
      · obtain ⟨a, vs, rfl, h1, h2⟩ := repD_frl hx
        obtain ⟨v, e1, r1⟩ := repL_at h2 h
        exact .inl ⟨a, vs, i, v, rfl, repD_int (S := S) (F := F) hy, Evl.ex_l ex h1, e1, g.now ex r1⟩
      · obtain ⟨a, vs, rfl, h1, h2⟩ := hx
        obtain ⟨v, e1, r1⟩ := repL_at h2 h
        exact .inl ⟨a, vs, i, v, rfl, repD_int (S := S) (F := F) hy, Evl.sq_of h1, e1, g.now ex r1⟩
      · obtain ⟨a, vs, rfl, h1, h2⟩ := repD_tup hx
        obtain ⟨v, e1, r1⟩ := repL_at h2 h
        exact .inr ⟨a, vs, i, v, rfl, repD_int (S := S) (F := F) hy, Evl.ex_t ex h1, e1, g.now ex r1⟩
  | _ => cases h
theorem opD_one {o : Op} {xs : List D} {z : D} (ho : ∀ ys, (∀ x, ys ≠ [x]) → opD o ys = none) (h : opD o xs = some z) : ∃ x, xs = [x] := by
  by_cases q : ∃ x, xs = [x]
  · exact q
  · rw [ho xs fun x e => q ⟨x, e⟩] at h
    cases h
theorem one_none {o : Op} (h : o = .len ∨ o = .abs ∨ o = .int ∨ o = .sum ∨ ∃ t, o = .isi t) : ∀ ys : List D, (∀ x, ys ≠ [x]) → opD o ys = none := by
  intro ys q
  match ys with
  | [] => rcases h with rfl | rfl | rfl | rfl | ⟨t, rfl⟩ <;> rfl
  | [x] => exact absurd rfl (q x)
  | x :: y :: r => rcases h with rfl | rfl | rfl | rfl | ⟨t, rfl⟩ <;> first | rfl | (cases x <;> rfl)
theorem many_len : Many0 S .len (fun xs H Q => ∃ p ys, xs = [.ref p] ∧ (SqL S.K H p ys ∨ SqT S.K H p ys) ∧ Q (.int ys.length) H) := by
  intro F H ws xs z Q ex hx h g
  obtain ⟨x, rfl⟩ := opD_one (one_none (by simp)) h
  obtain ⟨w, rfl, hw⟩ := repAs_one hx
  have h : (items x).map (fun xs => D.int xs.length) = some z := h
  cases q : items x with
  | none => rw [q] at h; cases h
  | some ys =>
    rw [q] at h
    cases h
    rcases items_cases q with rfl | rfl | rfl
    rotate_right
    · obtain ⟨a, vs, rfl, h1, h2⟩ := repD_frl hw
      refine ⟨a, vs, rfl, .inl (Evl.ex_l ex h1), ?_⟩
      rw [← repL_len h2]
      exact g.now ex (rep_int (S := S) (F := F))
    · obtain ⟨a, vs, rfl, h1, h2⟩ := hw
      refine ⟨a, vs, rfl, .inl (Evl.sq_of h1), ?_⟩
      rw [← repL_len h2]
      exact g.now ex (rep_int (S := S) (F := F))
    · obtain ⟨a, vs, rfl, h1, h2⟩ := repD_tup hw
      refine ⟨a, vs, rfl, .inr (Evl.ex_t ex h1), ?_⟩
      rw [← repL_len h2]
      exact g.now ex (rep_int (S := S) (F := F))
theorem repL_ints {F : Hp} : ∀ {xs : List D} {vs : List V} {ns : List Int}, RepL S F xs vs → intsOf xs = some ns → vs = ns.map V.int
  | [], vs, ns, h, e => by
    cases e
    rw [repL_nil h]
    rfl
  | x :: xs, vs, ns, h, e => by
    obtain ⟨v, ws, rfl, h1, h2⟩ := repL_cons h
    cases x with
    | int i =>
      have e : (intsOf xs).map (i :: ·) = some ns := e
      cases q : intsOf xs with
      | none => rw [q] at e; cases e
      | some ms =>
        rw [q] at e
        cases e
        rw [repL_ints h2 q, repD_int (S := S) (F := F) h1]
        rfl
    | _ => cases e
theorem many_sum : Many0 S .sum (rSum S.K) := by
  intro F H ws xs z Q ex hx h g
  obtain ⟨x, rfl⟩ := opD_one (one_none (by simp)) h
  obtain ⟨w, rfl, hw⟩ := repAs_one hx
  cases x with
  | lst ys =>
    have h : (intsOf ys).map (fun ns => D.int ns.sum) = some z := h
    cases q : intsOf ys with
    | none => rw [q] at h; cases h
    | some ns =>
      rw [q] at h
      cases h
      obtain ⟨a, vs, rfl, h1, h2⟩ := hw
      refine ⟨a, ns, rfl, ?_, g.now ex (rep_int (S := S) (F := F))⟩
      rw [← repL_ints h2 q]
      exact Evl.sq_of h1
  | _ => cases h
theorem many_abs : Many0 S .abs (fun xs H Q => ∃ i, xs = [.int i] ∧ Q (.int (if i < 0 then -i else i)) H) := by
  intro F H ws xs z Q ex hx h g
  obtain ⟨x, rfl⟩ := opD_one (one_none (by simp)) h
  obtain ⟨w, rfl, hw⟩ := repAs_one hx
  cases x with
  | int i =>
    have h : some (D.int (if i < 0 then -i else i)) = some z := h
    cases h
    exact ⟨i, by rw [repD_int (S := S) (F := F) hw], g.now ex (rep_int (S := S) (F := F))⟩
  | _ => cases h
theorem many_int : Many0 S .int (fun xs H Q => (∃ i, xs = [.int i] ∧ Q (.int i) H) ∨ ∃ k, xs = [.bl k] ∧ Q (.int (if k then 1 else 0)) H) := by
  intro F H ws xs z Q ex hx h g
  obtain ⟨x, rfl⟩ := opD_one (one_none (by simp)) h
  obtain ⟨w, rfl, hw⟩ := repAs_one hx
  cases x with
  | int i =>
    have h : some (D.int i) = some z := h
    cases h
    exact .inl ⟨i, by rw [repD_int (S := S) (F := F) hw], g.now ex (rep_int (S := S) (F := F))⟩
  | bl b =>
    have h : some (D.int (if b then 1 else 0)) = some z := h
    cases h
    exact .inr ⟨b, by rw [repD_bl (S := S) (F := F) hw], g.now ex (rep_int (S := S) (F := F))⟩
  | _ => cases h
theorem opD_pair {o : Op} {xs : List D} {z : D} (h : opD o xs = some z) (ho : o = .max2 ∨ o = .min2) : ∃ i j, xs = [.int i, .int j] := by
  match xs with
  | [] => rcases ho with rfl | rfl <;> cases h
  | [x] => rcases ho with rfl | rfl <;> cases x <;> cases h
  | [x, y] =>
    cases x with
    | int i =>
      cases y with
      | int j => exact ⟨i, j, rfl⟩
      | _ => rcases ho with rfl | rfl <;> cases h
    | _ => rcases ho with rfl | rfl <;> cases h
  | x :: y :: u :: r => rcases ho with rfl | rfl <;> cases x <;> first | cases h | (cases y <;> cases h)
theorem many_max2 : Many0 S .max2 (fun xs H Q => ∃ i j, xs = [.int i, .int j] ∧ Q (.int (if j > i then j else i)) H) := by
  intro F H ws xs z Q ex hx h g
  obtain ⟨i, j, rfl⟩ := opD_pair h (.inl rfl)
  obtain ⟨v, w, rfl, hv, hw⟩ := repAs_two hx
  have h : some (D.int (if j > i then j else i)) = some z := h
  cases h
  exact ⟨i, j, by rw [repD_int (S := S) (F := F) hw, repD_int (S := S) (F := F) hv], g.now ex (rep_int (S := S) (F := F))⟩
theorem many_min2 : Many0 S .min2 (fun xs H Q => ∃ i j, xs = [.int i, .int j] ∧ Q (.int (if j < i then j else i)) H) := by
  intro F H ws xs z Q ex hx h g
  obtain ⟨i, j, rfl⟩ := opD_pair h (.inr rfl)
  obtain ⟨v, w, rfl, hv, hw⟩ := repAs_two hx
  have h : some (D.int (if j < i then j else i)) = some z := h
  cases h
  exact ⟨i, j, by rw [repD_int (S := S) (F := F) hw, repD_int (S := S) (F := F) hv], g.now ex (rep_int (S := S) (F := F))⟩

/-! ### isinstance -/
def Ty.name : Ty → String
  | .int => "int" | .bool => "bool" | .str => "str" | .tuple => "tuple" | .list => "list" | .dict => "dict" | .own _ _ => "object"
def Ty.v (S : Sta) : Ty → V
  | .own d _ => .ref (S.ca d) | t => .ty t.name
def Ty.u (S : Sta) : Ty → Value
  | .own d _ => .ref (S.ca d) | t => .type t.name
def kinds : List String := ["NoneType", "bool", "int", "str", "tuple", "list", "dict"]
/-- an own class that isinstance asks for; cs: the classes whose instances are its -/
structure OwnTy (S : Sta) (d : Nat) (cs : List Nat) : Prop where
  blt : ∀ k, k ∈ kinds → PySem.W.kitOne S.K (.type k) (.ref (S.ca d)) = some false
  ins : ∀ c, S.ih c = true → PySem.W.kitOne S.K (.ref (S.ca c)) (.ref (S.ca d)) = some (cs.contains c)
/-- a class with instances -/
structure InsF (K : PySem.W.Frag) (C : Addr) : Prop where
  cl : Cls K C
  ha : PySem.W.findIn K (.ref C) "__class__" = some (some (.builtin "object.__class__"))
  hn : PySem.W.specialIn K (.builtin "object.__class__") "__get__" = some (some (.builtin "getset_descriptor.__get__"))
  htk : PySem.W.takesIn K (.builtin "object.__class__") = some true
  hm : PySem.W.mroIn K C (.type "object") = some true
  nt : ∀ t, t ∈ (["int", "bool", "str", "tuple", "list", "dict"] : List String) → PySem.W.kitOne K (.ref C) (.type t) = some false
def TyFine (S : Sta) : Ty → Prop
  | .own d cs => OwnTy S d cs
  | _ => True
def kindD : D → Option String
  | .non => some "NoneType" | .bl _ => some "bool" | .int _ => some "int" | .str _ => some "str" | .tup _ => some "tuple" | .lst _ => some "list" | .frl _ => some "list" | .emp => some "dict" | .ins .. => none | .cls _ => none
theorem kind_in {x : D} {k : String} (h : kindD x = some k) : k ∈ kinds := by
  cases x <;> cases h <;> decide
theorem tyX_of {F H : Hp} (ex : Ex F H) {x : D} {v : V} {k : String} (h : RepA S F H x v) (e : kindD x = some k) : TyX S.K H v (.type k) := by
  cases x with
  | non => cases e; rw [repD_non (S := S) (F := F) h]; exact .base .non
  | bl b => cases e; rw [repD_bl (S := S) (F := F) h]; exact .base (.bl b)
  | int b => cases e; rw [repD_int (S := S) (F := F) h]; exact .base (.int b)
  | str b => cases e; rw [repD_str (S := S) (F := F) h]; exact .base (.str b)
  | tup xs =>
    cases e
    obtain ⟨a, vs, rfl, h1, _⟩ := repD_tup h
    rcases Evl.ex_t ex h1 with (q | ⟨o, q⟩) | ⟨o, its, n, q, c, _⟩
    · exact .base (.tup q)
    · exact .fTuple q
    · exact .kTuple q c
  | lst xs =>
    cases e
    obtain ⟨a, vs, rfl, h1, _⟩ := h
    exact .base (.lst h1)
  | frl xs =>
    cases e
    obtain ⟨a, vs, rfl, h1, _⟩ := repD_frl h
    rcases Evl.ex_l ex h1 with (q | ⟨o, q⟩) | ⟨o, its, n, q, c, _⟩
    · exact .base (.lst q)
    · exact .base (.frz q)
    · exact .kList q c
  | emp =>
    cases e
    obtain ⟨a, rfl, h1⟩ := repD_emp (S := S) (F := F) h
    exact .base (.dK (ex _ _ h1))
  | ins c xs => cases e
  | cls c => cases e
/-- the type of a value, and whether it is a type's -/
theorem kit_all (hI : ∀ c, S.ih c = true → InsF S.K (S.ca c)) {F H : Hp} (ex : Ex F H) {x : D} {v : V} (hx : RepA S F H x v) : ∀ {ts : List Ty} {b : Bool}, ts ≠ [] → (∀ t ∈ ts, TyFine S t) → tyAny ts x = some b →
    ∃ tv, TyX S.K H v tv ∧ (∀ t ∈ ts, ∀ b, tyD t x = some b → PySem.W.kitOne S.K tv (t.u S) = some b) ∧ ∀ b, tyAny ts x = some b → PySem.W.kitAny S.K tv (ts.map fun t => t.u S) = some b := by
  have one : ∀ {ts : List Ty} {tv : Value}, (∀ t ∈ ts, TyFine S t) → (∀ t, TyFine S t → ∀ b, tyD t x = some b → PySem.W.kitOne S.K tv (t.u S) = some b) →
      ∀ b, tyAny ts x = some b → PySem.W.kitAny S.K tv (ts.map fun t => t.u S) = some b := by
    intro ts tv hf h1
    induction ts with
    | nil =>
      intro b h
      unfold tyAny at h
      cases h
      rfl
    | cons t ts ih =>
      intro b h
      unfold tyAny at h
      have hf1 := hf t List.mem_cons_self
      split at h
      · rename_i e
        cases h
        exact kitAny_cons (h1 t hf1 _ e) (fun z => by cases z) (fun _ => rfl)
      · rename_i e
        exact kitAny_cons (h1 t hf1 _ e) (fun _ => ih (fun u hu => hf u (List.mem_cons_of_mem _ hu)) b h) (fun z => by cases z)
      · cases h
  intro ts b hne hf h
  cases hk : kindD x with
  | some k =>
    have h1 : ∀ t, TyFine S t → ∀ b, tyD t x = some b → PySem.W.kitOne S.K (.type k) (t.u S) = some b := by
      intro t ht b e
      cases t with
      | own d cs =>
        have ht : OwnTy S d cs := ht
        have e : b = false := by
          cases x <;> cases hk <;> cases e <;> rfl
        subst e
        exact ht.blt k (kind_in hk)
      | int => cases x <;> cases hk <;> cases e <;> exact kit_ty (by decide +kernel)
      | bool => cases x <;> cases hk <;> cases e <;> exact kit_ty (by decide +kernel)
      | str => cases x <;> cases hk <;> cases e <;> exact kit_ty (by decide +kernel)
      | tuple => cases x <;> cases hk <;> cases e <;> exact kit_ty (by decide +kernel)
      | list => cases x <;> cases hk <;> cases e <;> exact kit_ty (by decide +kernel)
      | dict => cases x <;> cases hk <;> cases e <;> exact kit_ty (by decide +kernel)
    exact ⟨_, tyX_of ex hx hk, fun t ht b e => h1 t (hf t ht) b e, fun b hb => one hf h1 b hb⟩
  | none =>
    cases x with
    | ins c xs =>
      obtain ⟨hc, a, dx, vs, rfl, q1, q2, q3⟩ := repD_ins (S := S) (F := F) hx
      have I := hI c hc
      have h1 : ∀ t, TyFine S t → ∀ b, tyD t (.ins c xs) = some b → PySem.W.kitOne S.K (.ref (S.ca c)) (t.u S) = some b := by
        intro t ht b e
        cases t with
        | own d cs =>
          have ht : OwnTy S d cs := ht
          cases e
          exact ht.ins c hc
        | _ => cases e; exact I.nt _ (by decide)
      exact ⟨_, .base (.ins (ex _ _ q1) I.cl I.ha I.hn I.htk I.hm), fun t ht b e => h1 t (hf t ht) b e, fun b hb => one hf h1 b hb⟩
    | cls c =>
      cases ts with
      | nil => exact absurd rfl hne
      | cons t ts =>
        unfold tyAny at h
        cases t <;> cases h
    | _ => cases hk
end
end PyI

/-! PyI C: what a def promises while nothing is being shown around it; calls by name, of methods, of properties, of classes. -/
namespace PyI
open PySem PySem.Spec PyProof.Rows L2
open Evl (Ex)
open StX (run_bnd env0_laid un_laid)
section
variable {P : Program} {w : World} {K : PySem.W.Frag} {mg : Str → Option Value} {base : Heap} {CT : CXT} {j k : Nat} {f : Addr} {fd : FuncData} {ps : List Str} {sp sp' : Sp}
/-- by what the parameters are bound to -/
structure GoF (P : Program) (w : World) (K : PySem.W.Frag) (mg : Str → Option Value) (base : Heap) (CT : CXT) (k : Nat) (f : Addr) (fd : FuncData) (ps : List Str) (sp : Sp) : Prop where
  len : ∀ vs H Q E, sp vs H Q E → vs.length = ps.length
  go : ∀ (A : Around) (outer : List PySem.Env) (s : Shared) (H : Hp) (as : Args) (us : List Value) (vs : List V) (Q : VK) (E : XK), A.guards = some [] → Room k A → Env0 P w K mg base A outer s H →
    BindsTo s fd as (ps.zip us) → Vals vs us → sp vs H Q E → codeAny (model P w) A (.call (.ref f) as) (CR CT outer P w H s Q E) s
/-- by the values that are handed over -/
def GoR (P : Program) (w : World) (K : PySem.W.Frag) (mg : Str → Option Value) (base : Heap) (CT : CXT) (k : Nat) (f : Addr) (sp : Sp) : Prop :=
  ∀ (A : Around) (outer : List PySem.Env) (s : Shared) (H : Hp) (us : List Value) (vs : List V) (Q : VK) (E : XK), A.guards = some [] → Room k A → Env0 P w K mg base A outer s H →
    Vals vs us → sp vs H Q E → codeAny (model P w) A (.call (.ref f) ⟨us, []⟩) (CR CT outer P w H s Q E) s
theorem GoR.imp (F : GoR P w K mg base CT k f sp) (h : ∀ vs H Q E, sp' vs H Q E → sp vs H Q E) : GoR P w K mg base CT k f sp' :=
  fun A outer s H us vs Q E hg hr e0 r q => F A outer s H us vs Q E hg hr e0 r (h _ _ _ _ q)
theorem GoF.imp (F : GoF P w K mg base CT k f fd ps sp) (h : ∀ vs H Q E, sp' vs H Q E → sp vs H Q E) : GoF P w K mg base CT k f fd ps sp' :=
  ⟨fun vs H Q E q => F.len vs H Q E (h _ _ _ _ q), fun A outer s H as us vs Q E hg hr e0 hb r q => F.go A outer s H as us vs Q E hg hr e0 hb r (h _ _ _ _ q)⟩
/-- the defaults fill up -/
theorem GoF.raw {ds : List Value} {dvs : List V} (F : GoF P w K mg base CT k f fd ps sp) (hb : Binds K fd ps ds) (hd : Vals dvs ds) : GoR P w K mg base CT k f (fun vs H Q E => sp (vs ++ dvs) H Q E) := by
  intro A outer s H us vs Q E hg hr e0 r q
  have r' := r.append hd
  have kin : K.In s.heap := e0.mod.kin.keeps fun b o e => (e0.bs b o e).1
  exact F.go A outer s H ⟨us, []⟩ (us ++ ds) (vs ++ dvs) Q E hg hr e0 (hb s us kin (by rw [← r'.length]; exact F.len _ _ _ _ q)) r' q
/-- from the body -/
theorem gof_of {name qual : Str} {params : Arguments} {body : List Stmt} {scope : Scope} {dV kV doc pm cdv ct oc : Value} {an od : Option Addr} {osl : Array (Option Value)} {N : List Str}
    (lk : K.lookup f = some ⟨oc, od, .func (PySem.W.fnOf name qual params body scope dV kV doc pm an cdv ct), osl⟩) (hcd : PySem.W.codeIn K cdv qual = true) (sc : FnScope N ps scope) (len : ∀ vs H Q E, sp vs H Q E → vs.length = ps.length)
    (hb : ∀ (A : Around) (outer : List PySem.Env) (s : Shared) (H : Hp) (vs : List V) (Q : VK) (E : XK), A.guards = some [] → Room k (A.deeper (envOfC qual scope s.heap.objs.size f cdv)) → sp vs H Q E →
      ∃ t, PSs (cxOf CT P w K mg base N qual scope f cdv A outer s H E) body t ∧ t { nx := fun _ H' => Q .non H', rt := Q } (start N vs) H) :
    GoF P w K mg base CT (k + 1) f (PySem.W.fnOf name qual params body scope dV kV doc pm an cdv ct) ps sp := by
  refine ⟨len, fun A outer s H as us vs Q E hg hr e0 bt r q => ?_⟩
  refine run_bnd (G := fun xs H2 => xs = vs ∧ H2 = H) lk hcd sc hr e0 (fun A' Ex Q' z => bt _ A' Ex Q' (z s H vs us e0 .refl rfl (fun _ _ x => x) r (len _ _ _ _ q) ⟨rfl, rfl⟩)) fun s2 H2 xs g hr2 => ?_
  obtain ⟨e1, e2⟩ := g
  subst e1 e2
  exact hb A outer s2 _ _ Q E hg hr2 q
/-- a def with a starred parameter, from its body -/
theorem gor_star {name qual pv : Str} {params : Arguments} {body : List Stmt} {scope : Scope} {dV kV doc pm cdv ct oc : Value} {an od : Option Addr} {osl : Array (Option Value)} {N : List Str}
    (lk : K.lookup f = some ⟨oc, od, .func (PySem.W.fnOf name qual params body scope dV kV doc pm an cdv ct), osl⟩) (hcd : PySem.W.codeIn K cdv qual = true) (sc : FnScope N (ps ++ [pv]) scope) (hCX : StX.CXUp CT)
    (bd : ∀ us rest : List Value, us.length = ps.length → bindArgs (PySem.W.fnOf name qual params body scope dV kV doc pm an cdv ct) ⟨us ++ rest, []⟩ = (newTuple rest >>= fun t => pure (ps.zip us ++ [(pv, t)])))
    (hb : ∀ (A : Around) (outer : List PySem.Env) (s : Shared) (H : Hp) (vs : List V) (Q : VK) (E : XK), A.guards = some [] → Room k (A.deeper (envOfC qual scope s.heap.objs.size f cdv)) → sp vs H Q E →
      ∃ t, PSs (cxOf CT P w K mg base N qual scope f cdv A outer s H E) body t ∧ t { nx := fun _ H' => Q .non H', rt := Q } (start N vs) H) :
    GoR P w K mg base CT (k + 1) f (fun vs H Q E => ∃ ws rest, vs = ws ++ rest ∧ ws.length = ps.length ∧ rest.length ≤ sizeLine ∧ ∀ p, H p = Option.none → sp (ws ++ [V.ref p]) (upd H p (.tup rest)) Q E) := by
  intro A outer s H us vs Q E hg hr e0 r q
  obtain ⟨ws, rest, rfl, hl, hz, hq⟩ := q
  obtain ⟨u1, u2, rfl, r1, r2⟩ := StX.vals_split r
  have hn : H s.heap.objs.size = Option.none := e0.hok.fresh (Nat.le_refl _)
  refine run_bnd (G := fun xs H2 => ∃ p, H p = Option.none ∧ xs = ws ++ [V.ref p] ∧ H2 = upd H p (.tup rest)) lk hcd sc hr e0 (fun A' Ex Q' z => ?_) fun s2 H2 xs g hr2 => ?_
  · have l1 : u1.length = ps.length := r1.length ▸ hl
    rw [bd u1 u2 l1]
    have z2 : u2.length ≤ sizeLine := r2.length ▸ hz
    refine wpAny_bind (wpAny_newTuple (wpAny_pure ?_) z2)
    have nw : ObjOk P w (upd H s.heap.objs.size (.tup rest)) (s.heap.push ({ cls := .type "tuple", data := .seq u2.toArray } : Obj)) s.heap.objs.size (.tup rest) :=
      ⟨hz, u2, r2, ⟨_, Heap.get?_push_size _ rfl, rfl, _, rfl⟩⟩
    have un := un_laid (fs := frs outer) (s := s) (o := ({ cls := .type "tuple", data := .seq u2.toArray } : Obj)) (u := .tup rest) hn
    have y := z { s with heap := s.heap.push ({ cls := .type "tuple", data := .seq u2.toArray } : Obj) } (upd H s.heap.objs.size (.tup rest)) (ws ++ [V.ref s.heap.objs.size]) (u1 ++ [Value.ref s.heap.objs.size]) (env0_laid e0 nw) un rfl
      (fun e s' => hCX outer s H _ _ E e s' un (fun b o q => Heap.get?_push_of_some _ q) rfl) (r1.append (.cons rfl .nil)) (by simp [hl]) ⟨_, hn, rfl, rfl⟩
    rwa [List.zip_append l1.symm] at y
  · obtain ⟨p, hp, e1, e2⟩ := g
    subst e1 e2
    exact hb A outer s2 _ _ Q E hg hr2 (hq p hp)
end

/-! ### calls -/
section
variable {X : Cx} {CT : CXT} {k : Nat} {f g C p : Addr} {fd : FuncData} {ps : List Str} {ds : List Value} {dvs : List V} {sp : Sp} {E : Sl → XK} {x m : Str} {e o : Expr} {es : List Expr} {t : TA} {ta : TE} {np pos apos : Pos}
def Gone (X : Cx) (pins : List (Addr × Obj)) (σ : Sl) (Q : VK) (r : Result) (s' : Shared) : Prop := match r with | .ok (.ret v) => EP X pins σ Q v s' | .ok _ => False | .error e => X.xe e s'
/-- the callee's end is the call's -/
theorem gone_by {σ : Sl} {pins : List (Addr × Obj)} {H : Hp} {s : Shared} {Q : VK} (hx : PassesAt CT X σ (E σ)) (I : Inv X pins σ H s) {r : Result} {s' : Shared} (h : CR CT X.stack X.prog X.w H s Q (E σ) r s') : Gone X pins σ Q r s' := by
  cases r with
  | error er => exact hx pins H s er s' I h
  | ok fl => cases fl with
    | ret u => exact I.after h
    | _ => exact h
theorem run_go {σ : Sl} {pins : List (Addr × Obj)} {H : Hp} {s : Shared} {Q : VK} {us : List Value} {vs : List V} (F : GoR X.prog X.w X.K X.mg X.base CT k f sp) (hg : X.A.guards = some []) (hr : Room k X.A) (hx : PassesAt CT X σ (E σ)) (I : Inv X pins σ H s)
    (r : Vals vs us) (h : sp vs H Q (E σ)) : wpAny (model X.prog X.w) X.A (call (.ref f) us) (EP X pins σ Q) X.xe s :=
  wpAny_call (codeAny_mono (F X.A X.stack s H us vs Q (E σ) hg hr I.env0 r h) fun _ _ z => gone_by hx I z)
theorem run_gok {σ : Sl} {pins : List (Addr × Obj)} {H : Hp} {s : Shared} {Q : VK} {us ws : List Value} {vs zs : List V} {ks : List Str} {gU : List Value → List Value → List Value} {gV : List V → List V → List V}
    (F : GoF X.prog X.w X.K X.mg X.base CT k f fd ps sp) (hg : X.A.guards = some []) (hr : Room k X.A) (hb : KBinds X.K fd ps ks gU gV) (hx : PassesAt CT X σ (E σ)) (I : Inv X pins σ H s) (r : Vals vs us) (rz : Vals zs ws)
    (h : sp (gV vs zs) H Q (E σ)) : wpAny (model X.prog X.w) X.A (call (.ref f) us (ks.zip ws)) (EP X pins σ Q) X.xe s := by
  have r2 := hb.rel r rz
  exact wpAny_call (codeAny_mono (F.go X.A X.stack s H ⟨us, ks.zip ws⟩ (gU us ws) (gV vs zs) Q (E σ) hg hr I.env0 (hb.to s us ws I.kIn (by rw [← r2.length]; exact F.len _ _ _ _ h)) r2 h) fun _ _ z => gone_by hx I z)
/-- a def by its name -/
theorem pe_go (F : GoR X.prog X.w X.K X.mg X.base CT k f sp) (hg : X.A.guards = some []) (hr : Room k X.A) (gl : Gl X x) (hm : X.mg x = some (.ref f)) (hk : PySem.W.keepIn X.K (.ref f) = true) (hx : ∀ σ, PassesAt CT X σ (E σ)) (ha : PA X (e :: es) t)
    (hd : (x == ("__debug__" : Str)) = false) (he : starEach (e :: es) X.env = (false, eval e X.env) :: starEach es X.env) (hp : (backTo pos (starEach es X.env)).any (·.1) = false) :
    PE X (.Call (.Name x np) (e :: es) [] pos) (fun σ H Q => t σ H fun vs H1 => sp vs H1 Q (E σ)) :=
  ⟨fun pins s σ H Q I h => wpAny_Call_Name_kw (ld_glob I gl hm (PySem.W.callWith_K (h₀ := X.base) I.ok.mod.kin hk (thn (ha.run pos pins s σ H _ I h) fun us s1 ⟨vs, H1, I1, r, q⟩ => ⟨I1.kIn, run_go F hg hr (hx σ) I1 r q⟩) he hp) hd)⟩
theorem pe_go0 (F : GoR X.prog X.w X.K X.mg X.base CT k f sp) (hg : X.A.guards = some []) (hr : Room k X.A) (gl : Gl X x) (hm : X.mg x = some (.ref f)) (hk : PySem.W.keepIn X.K (.ref f) = true) (hx : ∀ σ, PassesAt CT X σ (E σ)) (hd : (x == ("__debug__" : Str)) = false) :
    PE X (.Call (.Name x np) [] [] pos) (fun σ H Q => sp [] H Q (E σ)) :=
  ⟨fun pins s σ H Q I h => wpAny_Call_Name_kw (ld_glob I gl hm (PySem.W.callWith_K0 I.kIn hk (run_go (us := []) F hg hr (hx σ) I .nil h)) hd)⟩
/-- what a call of an attribute does -/
abbrev CallsAttr (o : Expr) (m : Str) (apos pos : Pos) (args : List Expr) (env : PySem.Env) (pl : Sem Bool) : Prop := eval (.Call (.Attribute o m apos) args [] pos) env = (do
  let ov ← eval o env
  standAt apos.atName
  let (f, first) ← holding [ov] (getMethod ov m pl)
  callWith pos f first (backTo pos (starEach args env)) (backToKw pos (keywordEach [] env)))
/-- a method of an instance; which class it is of, i tells -/
def tGom {ι : Type} (ok : ι → Prop) (C : ι → Addr) (m : Str) (sp : ι → Sp) (E : Sl → XK) (ta : TE) (t : TA) : TE := fun σ H Q => ta σ H fun x H1 => ∃ i a dx fs, ok i ∧ x = .ref a ∧ H1 a = some (.ins (C i) dx fs) ∧ fs.lookup m = none ∧ t σ H1 fun vs H2 => sp i (x :: vs) H2 Q (E σ)
theorem pe_gom {ι : Type} {ok : ι → Prop} {C f : ι → Addr} {sp : ι → Sp} {pl : Sem Bool} (ho : PE X o ta) (c : ∀ i, ok i → Cls X.K (C i) ∧ Meth X.K (C i) m (f i) ∧ GoR X.prog X.w X.K X.mg X.base CT k (f i) (sp i)) (hg : X.A.guards = some []) (hr : Room k X.A) (hx : ∀ σ, PassesAt CT X σ (E σ)) (ha : PA X (e :: es) t)
    (he : starEach (e :: es) X.env = (false, eval e X.env) :: starEach es X.env) (hp : (backTo pos (starEach es X.env)).any (·.1) = false) (ht : CallsAttr o m apos pos (e :: es) X.env pl) :
    PE X (.Call (.Attribute o m apos) (e :: es) [] pos) (tGom ok C m sp E ta t) := by
  refine ⟨fun pins s σ H Q I h => PySem.W.methodCall_KW (pl := pl) (thn (ho.run pins s σ H _ I h) fun u s1 z => ?_) ht⟩
  obtain ⟨x, H1, I1, rx, i, a, dx, fs, oi, rfl, ea, l, q⟩ := z
  cases (show u = Value.ref a from rx)
  obtain ⟨c, hm, F⟩ := c i oi
  refine getmeth_ok I1 ea c hm l (PySem.W.callWith_K (first := [.ref a]) (h₀ := X.base) I.ok.mod.kin hm.kp (thn (ha.run pos pins s1 σ H1 _ I1 q) fun us s2 y => ?_) he hp)
  obtain ⟨vs, H2, I2, r, q2⟩ := y
  exact ⟨I2.kIn, run_go (us := .ref a :: us) F hg hr (hx σ) I2 (.cons (show L2.RelV (V.ref a) _ from rfl) r) q2⟩
theorem pe_gom0 {ι : Type} {ok : ι → Prop} {C f : ι → Addr} {sp : ι → Sp} {pl : Sem Bool} (ho : PE X o ta) (c : ∀ i, ok i → Cls X.K (C i) ∧ Meth X.K (C i) m (f i) ∧ GoR X.prog X.w X.K X.mg X.base CT k (f i) (sp i)) (hg : X.A.guards = some []) (hr : Room k X.A) (hx : ∀ σ, PassesAt CT X σ (E σ))
    (ht : CallsAttr o m apos pos [] X.env pl) : PE X (.Call (.Attribute o m apos) [] [] pos) (tGom ok C m sp E ta tNil) := by
  refine ⟨fun pins s σ H Q I h => PySem.W.methodCall_KW (pl := pl) (thn (ho.run pins s σ H _ I h) fun u s1 z => ?_) ht⟩
  obtain ⟨x, H1, I1, rx, i, a, dx, fs, oi, rfl, ea, l, q⟩ := z
  cases (show u = Value.ref a from rx)
  obtain ⟨c, hm, F⟩ := c i oi
  refine getmeth_ok I1 ea c hm l (PySem.W.callWith_K0 (first := [.ref a]) I1.kIn hm.kp ?_)
  exact run_go (us := [.ref a]) F hg hr (hx σ) I1 (.cons (show L2.RelV (V.ref a) _ from rfl) .nil) q
/-- a property of an instance; its getter raises nothing -/
def tGop {ι : Type} (ok : ι → Prop) (C : ι → Addr) (sp : ι → Sp) (ta : TE) : TE := fun σ H Q => ta σ H fun x H1 => ∃ i a dx fs, ok i ∧ x = .ref a ∧ H1 a = some (.ins (C i) dx fs) ∧ sp i [.ref a] H1 Q fun _ _ _ => False
theorem pe_gop {ι : Type} {ok : ι → Prop} {C f : ι → Addr} {sp : ι → Sp} (ho : PE X o ta) (c : ∀ i, ok i → Cls X.K (C i) ∧ (∃ q, PropOf X.K (C i) m q (f i)) ∧ GoR X.prog X.w X.K X.mg X.base CT k (f i) (sp i)) (hg : X.A.guards = some []) (hr : Room (k + 1) X.A)
    (hx : ∀ (st : List PySem.Env) (H : Hp) (s : Shared) (e : Value) (s' : Shared), CT st H s (fun _ _ _ => False) e s' → False) (hb : attributeBase o m X.env (eval o X.env) = eval o X.env) : PE X (.Attribute o m pos) (tGop ok C sp ta) := by
  refine ⟨fun pins s σ H Q I h => attr_of hb (thn (ho.run pins s σ H _ I h) fun u s1 z => ?_)⟩
  obtain ⟨x, H1, I1, rx, i, a, dx, fs, oi, rfl, ea, w⟩ := z
  cases (show u = Value.ref a from rx)
  obtain ⟨c, ⟨q, hp⟩, F⟩ := c i oi
  obtain ⟨mA, O, _, _, _, _⟩ := ins_get I1.hok ea
  obtain ⟨od, J, _⟩ := O.look
  obtain ⟨rest, hrec⟩ := hp.rec_
  have I2 := I1.tok (s1.toks + 1)
  have hc : (PySem.W.clsIn X.K (C i)).isSome = true := by
    obtain ⟨cd, hc, _⟩ := PySem.W.any_some c.hd
    simp [hc]
  refine PySem.W.get_bind I1.kIn J (PySem.W.plainGet_of (c.get m)).1 (PySem.W.findObj_data hc hp.at_ hp.get hp.tak) (PySem.W.plainGet_of (c.get m)).2 (wpAny_call (PySem.W.prop_get (s := { s1 with toks := s1.toks + 1 }) I1.kIn hrec ?_))
  refine codeAny_mono (F X.A.in1 X.stack { s1 with toks := s1.toks + 1 } H1 [.ref a] [.ref a] Q (fun _ _ _ => False) hg hr.in1 I2.env0.in1 (.cons rfl .nil) w) fun r s' y => ?_
  match r, y with
  | .error er, y => exact (hx _ _ _ _ _ y).elim
  | .ok .next, y => exact False.elim y
  | .ok .brk, y => exact False.elim y
  | .ok .cont, y => exact False.elim y
  | .ok (.ret u), y =>
    obtain ⟨v, H', I3, rv, q3⟩ := I2.after y
    show wpAny _ _ (handedOut u) _ _ _
    rw [PySem.W.handedOut_of (handed_of rv)]
    exact wpAny_pure ⟨v, H', I3, rv, q3⟩
/-- a new instance -/
def tGon (C : Addr) (sp : Sp) (E : Sl → XK) (t : TA) : TE := fun σ H Q => t σ H fun vs H1 => ∀ a dx, H1 a = none → H1 dx = none → dx ≠ a → sp (.ref a :: vs) (upd (upd H1 dx (.own a)) a (.ins C dx [])) (fun v H2 => v = .non ∧ Q (.ref a) H2) (E σ)
theorem guards_make {A : Around} (h : A.guards = some []) (C : Addr) (us : List Value) : (A.under (.builtin "type.__call__" ⟨.ref C :: us, []⟩)).guards = some [] := by
  have e : (Code.builtin "type.__call__" ⟨.ref C :: us, []⟩).isGuard = false := by
    show guardIds.contains "type.__call__" = false
    decide +kernel
  simp [Around.under, Code.guards, e, pushGuards, h]
theorem run_gon {σ : Sl} {pins : List (Addr × Obj)} {H : Hp} {s : Shared} {Q : VK} {us : List Value} {vs : List V} (M : Mk X.K C f) (F : GoR X.prog X.w X.K X.mg X.base CT k f sp) (hg : X.A.guards = some []) (hr : Room (k + 1) X.A) (hx : ∀ σ, PassesAt CT X σ (E σ))
    (I : Inv X pins σ H s) (r : Vals vs us) (h : ∀ a dx, H a = none → H dx = none → dx ≠ a → sp (.ref a :: vs) (upd (upd H dx (.own a)) a (.ins C dx [])) (fun v H2 => v = .non ∧ Q (.ref a) H2) (E σ)) :
    wpAny (model X.prog X.w) X.A (call (.ref C) us) (EP X pins σ Q) X.xe s := by
  have w := h (s.heap.objs.size + 1) s.heap.objs.size (I.hok.fresh (Nat.le_succ _)) (I.hok.fresh (Nat.le_refl _)) (Nat.ne_of_lt (Nat.lt_succ_self _))
  have I2 := Inv.made (C := C) I
  refine wpAny_call (make_map (f := f) I.kIn M.makes M.init (beq_iff_eq.mp M.fn) ?_)
  refine codeAny_mono (F _ X.stack _ _ (Value.ref (s.heap.objs.size + 1) :: us) (V.ref (s.heap.objs.size + 1) :: vs) _ _ (guards_make hg C us) (hr.make C us []) (I2.env0.make C us []) (.cons rfl r) w) fun r s' y => ?_
  match r, y with
  | .error er, y => exact hx σ pins _ _ er s' I2 y
  | .ok .next, y => exact False.elim y
  | .ok .brk, y => exact False.elim y
  | .ok .cont, y => exact False.elim y
  | .ok (.ret u), y =>
    obtain ⟨v, H', I3, rv, rfl, q3⟩ := I2.after y
    exact ⟨rv, V.ref (s.heap.objs.size + 1), H', I3, rfl, q3⟩
theorem pe_gon (M : Mk X.K C f) (F : GoR X.prog X.w X.K X.mg X.base CT k f sp) (hg : X.A.guards = some []) (hr : Room (k + 1) X.A) (gl : Gl X x) (hm : X.mg x = some (.ref C)) (hx : ∀ σ, PassesAt CT X σ (E σ)) (ha : PA X (e :: es) t)
    (hd : (x == ("__debug__" : Str)) = false) (he : starEach (e :: es) X.env = (false, eval e X.env) :: starEach es X.env) (hp : (backTo pos (starEach es X.env)).any (·.1) = false) : PE X (.Call (.Name x np) (e :: es) [] pos) (tGon C sp E t) :=
  ⟨fun pins s σ H Q I h => wpAny_Call_Name_kw (ld_glob I gl hm (PySem.W.callWith_K (h₀ := X.base) I.ok.mod.kin M.kp (thn (ha.run pos pins s σ H _ I h) fun us s1 ⟨vs, H1, I1, r, q⟩ => ⟨I1.kIn, run_gon M F hg hr hx I1 r q⟩) he hp) hd)⟩
theorem pe_gon0 (M : Mk X.K C f) (F : GoR X.prog X.w X.K X.mg X.base CT k f sp) (hg : X.A.guards = some []) (hr : Room (k + 1) X.A) (gl : Gl X x) (hm : X.mg x = some (.ref C)) (hx : ∀ σ, PassesAt CT X σ (E σ)) (hd : (x == ("__debug__" : Str)) = false) :
    PE X (.Call (.Name x np) [] [] pos) (tGon C sp E tNil) :=
  ⟨fun pins s σ H Q I h => wpAny_Call_Name_kw (ld_glob I gl hm (PySem.W.callWith_K0 I.kIn M.kp (run_gon (us := []) M F hg hr hx I .nil h)) hd)⟩
theorem run_gocm {q : Addr} {g : Addr} {E : XK} {σ : Sl} {pins : List (Addr × Obj)} {H : Hp} {s : Shared} {Q : VK} {us : List Value} {vs : List V} (F : GoR X.prog X.w X.K X.mg X.base CT k g sp) (hg : X.A.guards = some []) (hr : Room k X.A) (hx : PassesAt CT X σ E)
    (I : Inv X ((q, PySem.W.methodObj (.ref g) (.ref C)) :: pins) σ H s) (r : Vals vs us) (h : sp (.ref C :: vs) H Q E) : wpAny (model X.prog X.w) X.A (call (.ref q) us) (EP X pins σ Q) X.xe s := by
  have z : wpAny (model X.prog X.w) X.A (call (.ref q) us) (EP X ((q, PySem.W.methodObj (.ref g) (.ref C)) :: pins) σ Q) X.xe s :=
    wpAny_call (PySem.W.method_call (ClX.pin_at I) (codeAny_mono (F X.A X.stack s H (.ref C :: us) (.ref C :: vs) Q E hg hr I.env0 (.cons rfl r) h) fun _ _ z => gone_by (E := fun _ => E) hx I z))
  exact thn z fun _ _ y => ClX.unpinE y
/-- C.m(..), m a classmethod -/
theorem pe_gocm {mc : Value} {pl : Sem Bool} {g : Addr} (F : GoR X.prog X.w X.K X.mg X.base CT k g sp) (hg : X.A.guards = some []) (hr : Room k X.A) (gl : Gl X x) (hm : X.mg x = some (.ref C)) (r : ClX.CRead X.K C mc) (c : ClX.CMet X.K C mc m p g) (hx : ∀ σ, PassesAt CT X σ (E σ)) (ha : PA X (e :: es) t)
    (hd : (x == ("__debug__" : Str)) = false) (he : starEach (e :: es) X.env = (false, eval e X.env) :: starEach es X.env) (hp : (backTo pos (starEach es X.env)).any (·.1) = false) (ht : CallsAttr (.Name x np) m apos pos (e :: es) X.env pl) :
    PE X (.Call (.Attribute (.Name x np) m apos) (e :: es) [] pos) (fun σ H Q => t σ H fun vs H1 => sp (.ref C :: vs) H1 Q (E σ)) := by
  refine ⟨fun pins s σ H Q I h => ?_⟩
  refine PySem.W.methodCall_KW (pl := pl) (ld_glob I gl hm ?_ hd) ht
  refine ClX.getmethcm_ok I r c fun s2 I2 => ?_
  refine ClX.callwith_cm I2 (ClX.base_none I (Nat.le_refl _)) c.fi (thn (ha.run pos _ s2 σ H _ I2 h) fun us s3 ⟨vs, H2, I3, rv, q2⟩ => ⟨⟨ClX.pin_at I3, I3.kIn⟩, ?_⟩) he hp
  exact run_gocm F hg hr (hx σ) I3 rv q2
theorem pe_gocm0 {mc : Value} {pl : Sem Bool} {g : Addr} (F : GoR X.prog X.w X.K X.mg X.base CT k g sp) (hg : X.A.guards = some []) (hr : Room k X.A) (gl : Gl X x) (hm : X.mg x = some (.ref C)) (r : ClX.CRead X.K C mc) (c : ClX.CMet X.K C mc m p g) (hx : ∀ σ, PassesAt CT X σ (E σ))
    (hd : (x == ("__debug__" : Str)) = false) (ht : CallsAttr (.Name x np) m apos pos [] X.env pl) :
    PE X (.Call (.Attribute (.Name x np) m apos) [] [] pos) (fun σ H Q => sp [.ref C] H Q (E σ)) := by
  refine ⟨fun pins s σ H Q I h => ?_⟩
  refine PySem.W.methodCall_KW (pl := pl) (ld_glob I gl hm ?_ hd) ht
  refine ClX.getmethcm_ok I r c fun s2 I2 => ?_
  exact PySem.W.callWith_M0 (K := X.K) ⟨ClX.pin_at I2, I2.kIn⟩ c.fi (run_gocm (us := []) (vs := []) F hg hr (hx σ) I2 .nil h)
/-- v(..), v a variable that holds the class -/
theorem pe_gonv {i : Nat} (M : Mk X.K C f) (F : GoR X.prog X.w X.K X.mg X.base CT k f sp) (hg : X.A.guards = some []) (hr : Room (k + 1) X.A) (hN : X.N[i]? = some x) (hv : Vis X.env.scope x) (hx : ∀ σ, PassesAt CT X σ (E σ)) (ha : PA X (e :: es) t)
    (hd : (x == ("__debug__" : Str)) = false) (hcd : (x == ("__classdict__" : Str)) = false) (he : starEach (e :: es) X.env = (false, eval e X.env) :: starEach es X.env) (hp : (backTo pos (starEach es X.env)).any (·.1) = false) :
    PE X (.Call (.Name x np) (e :: es) [] pos) (fun σ H Q => σ[i]? = some (some (V.ref C)) ∧ tGon C sp E t σ H Q) := by
  refine ⟨fun pins s σ H Q I h => wpAny_Call_Name_kw (thn ((pe_var (pos := np) hN hv hd hcd).run pins s σ H (fun v H1 => v = V.ref C ∧ tGon C sp E t σ H1 Q) I ⟨V.ref C, h.1, rfl, h.2⟩) fun u s1 z => ?_)⟩
  obtain ⟨v, H1, I1, rv, rfl, q⟩ := z
  cases (show u = Value.ref C from rv)
  exact PySem.W.callWith_K (h₀ := X.base) I.ok.mod.kin M.kp (thn (ha.run pos pins s1 σ H1 _ I1 q) fun us s2 ⟨vs, H2, I2, r, q2⟩ => ⟨I2.kIn, run_gon M F hg hr hx I2 r q2⟩) he hp
/-- C.m is a staticmethod: its record at p, its def at g -/
structure SMet (K : PySem.W.Frag) (C : Addr) (mc : Value) (m : Str) (p g : Addr) : Prop where
  at_ : PySem.W.findCls K (.ref C) mc m = some (.get (.builtin "staticmethod.__get__") (.ref p) .none (.ref C))
  rc : ∃ rest, PySem.W.recIn K p "staticmethod" = some (.ref g :: rest)
  kp : PySem.W.keepIn K (.ref g) = true
/-- C.m(..), m a staticmethod -/
theorem pe_gosm {mc : Value} {pl : Sem Bool} {g : Addr} (F : GoR X.prog X.w X.K X.mg X.base CT k g sp) (hg : X.A.guards = some []) (hr : Room k X.A) (gl : Gl X x) (hm : X.mg x = some (.ref C)) (r : ClX.CRead X.K C mc) (c : SMet X.K C mc m p g) (hx : ∀ σ, PassesAt CT X σ (E σ)) (ha : PA X (e :: es) t)
    (hd : (x == ("__debug__" : Str)) = false) (he : starEach (e :: es) X.env = (false, eval e X.env) :: starEach es X.env) (hp : (backTo pos (starEach es X.env)).any (·.1) = false) (ht : CallsAttr (.Name x np) m apos pos (e :: es) X.env pl) :
    PE X (.Call (.Attribute (.Name x np) m apos) (e :: es) [] pos) (fun σ H Q => t σ H fun vs H1 => sp vs H1 Q (E σ)) := by
  refine ⟨fun pins s σ H Q I h => ?_⟩
  refine PySem.W.methodCall_KW (pl := pl) (ld_glob I gl hm ?_ hd) ht
  obtain ⟨rest, rc⟩ := c.rc
  refine PySem.W.method_cls I.kIn r.ga (PySem.W.cls_bind I.kIn r.rd c.at_ ?_)
  have I2 := I.tok (s.toks + 1)
  refine wpAny_call (PySem.W.sm_get (s := { s with toks := s.toks + 1 }) I.kIn rc (PySem.W.handed_on rfl ?_))
  exact PySem.W.callWith_K (first := []) (h₀ := X.base) I.ok.mod.kin c.kp (thn (ha.run pos pins _ σ H _ I2 h) fun us s2 ⟨vs, H2, I3, rv, q2⟩ => ⟨I3.kIn, run_go F hg hr (hx σ) I3 rv q2⟩) he hp
/-- a new instance, some arguments by name -/
def tGonK (C : Addr) (n m : Nat) (sp : Sp) (gV : List V → List V → List V) (E : Sl → XK) (t tk : TA) : TE := fun σ H Q => t σ H fun vs H1 => tk σ H1 fun zs H2 => vs.length = n ∧ zs.length = m ∧
  ∀ a dx, H2 a = none → H2 dx = none → dx ≠ a → sp (gV (.ref a :: vs) zs) (upd (upd H2 dx (.own a)) a (.ins C dx [])) (fun v H3 => v = .non ∧ Q (.ref a) H3) (E σ)
theorem run_gonK {n : Nat} {ks : List Str} {gU : List Value → List Value → List Value} {gV : List V → List V → List V} {σ : Sl} {pins : List (Addr × Obj)} {H : Hp} {s : Shared} {Q : VK} {us ws : List Value} {vs zs : List V} (M : Mk X.K C f)
    (F : GoF X.prog X.w X.K X.mg X.base CT k f fd ps sp) (hg : X.A.guards = some []) (hr : Room (k + 1) X.A) (hb : KBn X.K fd ps (n + 1) ks gU gV) (hx : ∀ σ, PassesAt CT X σ (E σ)) (I : Inv X pins σ H s) (r : Vals vs us) (rz : Vals zs ws) (l1 : vs.length = n) (l2 : zs.length = ks.length)
    (h : ∀ a dx, H a = none → H dx = none → dx ≠ a → sp (gV (.ref a :: vs) zs) (upd (upd H dx (.own a)) a (.ins C dx [])) (fun v H2 => v = .non ∧ Q (.ref a) H2) (E σ)) :
    wpAny (model X.prog X.w) X.A (call (.ref C) us (ks.zip ws)) (EP X pins σ Q) X.xe s := by
  have want := h (s.heap.objs.size + 1) s.heap.objs.size (I.hok.fresh (Nat.le_succ _)) (I.hok.fresh (Nat.le_refl _)) (Nat.ne_of_lt (Nat.lt_succ_self _))
  have J := Inv.made (C := C) I
  have full : Vals (V.ref (s.heap.objs.size + 1) :: vs) (Value.ref (s.heap.objs.size + 1) :: us) := .cons rfl r
  have cnt : (Value.ref (s.heap.objs.size + 1) :: us).length = n + 1 := by rw [List.length_cons, ← r.length, l1]
  have gd : (X.A.under (.builtin "type.__call__" ⟨.ref C :: us, ks.zip ws⟩)).guards = some [] := by
    have e : (Code.builtin "type.__call__" ⟨.ref C :: us, ks.zip ws⟩).isGuard = false := by
      show guardIds.contains "type.__call__" = false
      decide +kernel
    simp [Around.under, Code.guards, e, pushGuards, hg]
  refine wpAny_call (make_map (f := f) I.kIn M.makes M.init (beq_iff_eq.mp M.fn) ?_)
  refine codeAny_mono (F.go _ X.stack _ _ ⟨Value.ref (s.heap.objs.size + 1) :: us, ks.zip ws⟩ (gU (Value.ref (s.heap.objs.size + 1) :: us) ws) _ _ _ gd (hr.make C us (ks.zip ws)) (J.env0.make C us (ks.zip ws))
    (hb.to _ (Value.ref (s.heap.objs.size + 1) :: us) ws J.kIn cnt (rz.length.symm.trans l2)) (hb.rel full rz) want) fun r s' y => ?_
  match r, y with
  | .error er, y => exact hx σ pins _ _ er s' J y
  | .ok .next, y => exact False.elim y
  | .ok .brk, y => exact False.elim y
  | .ok .cont, y => exact False.elim y
  | .ok (.ret u), y =>
    obtain ⟨v, H', I3, rv, rfl, q3⟩ := J.after y
    exact ⟨rv, V.ref (s.heap.objs.size + 1), H', I3, rfl, q3⟩
theorem pe_gonK {n : Nat} {ks : List Str} {gU : List Value → List Value → List Value} {gV : List V → List V → List V} {kws : List Keyword} {tk : TA} (M : Mk X.K C f) (F : GoF X.prog X.w X.K X.mg X.base CT k f fd ps sp) (hg : X.A.guards = some []) (hr : Room (k + 1) X.A)
    (hb : KBn X.K fd ps (n + 1) ks gU gV) (gl : Gl X x) (hm : X.mg x = some (.ref C)) (hx : ∀ σ, PassesAt CT X σ (E σ)) (ha : PA X (e :: es) t) (hkw : PK X kws tk)
    (hall : (backToKw pos (keywordEach kws X.env)).all (·.1.isSome) = true) (hks : (backToKw pos (keywordEach kws X.env)).filterMap (·.1) = ks) (hd : (x == ("__debug__" : Str)) = false)
    (he : starEach (e :: es) X.env = (false, eval e X.env) :: starEach es X.env) (hpl : ((backTo pos (starEach (e :: es) X.env)).any (·.1) || (backToKw pos (keywordEach kws X.env)).any (·.1.isNone)) = false) :
    PE X (.Call (.Name x np) (e :: es) kws pos) (tGonK C n ks.length sp gV E t tk) := by
  refine ⟨fun pins s σ H Q I h => ?_⟩
  refine wpAny_Call_Name_kw (ld_glob I gl hm ?_ hd)
  refine PySem.W.callWith_KW (h₀ := X.base) I.ok.mod.kin M.kp hall (thn (ha.run pos pins s σ H _ I h) fun us s1 ⟨vs, H1, I1, r, q⟩ => ?_) hpl he
  refine thn (hkw.run pos pins s1 σ H1 _ I1 q) fun ws s2 ⟨zs, H2, I2, rz, l1, l2, q2⟩ => ⟨I2.kIn, ?_⟩
  rw [hks]
  exact run_gonK M F hg hr hb hx I2 r rz l1 l2 q2
end
end PyI

/-! PyI N: attributes, properties, methods, new instances, calls with defaults. -/
namespace PyI
open PySem PySem.Spec PyProof.Rows L2
open Evl (Ex)

/-- what holds of the whole text -/
structure BaseF (S : Sta) : Prop where
  inj : ∀ f g, S.fok f = true → S.fok g = true → S.fnm f = S.fnm g → f = g
  cf : ∀ c, S.ih c = true → ∀ f ∈ S.cf c, S.fok f = true
  ins : ∀ c, S.ih c = true → InsF S.K (S.ca c)
/-- the attribute x -/
structure FldF (S : Sta) (x : Str) (f : Nat) (cs : List (Nat × Nat)) : Prop where
  nm : S.fnm f = x
  ok : S.fok f = true
  at_ : ∀ c i, cs.lookup c = some i → S.ih c = true → NoAttr S.K (S.ca c) x ∧ ∀ vs : List V, vs.length = (S.names c).length → ((S.names c).zip vs).lookup x = vs[i]?
/-- the property x -/
def PropF (S : Sta) (x : Str) (tbl : List (Nat × Nat)) : Prop := ∀ c g, tbl.lookup c = some g → S.ih c = true → ∃ q, PropOf S.K (S.ca c) x q (S.fa g)
/-- the method x -/
structure MthF (S : Sta) (x : Str) (tbl : List (Nat × Nat)) : Prop where
  no : ∀ f, S.fok f = true → S.fnm f ≠ x
  at_ : ∀ c g, tbl.lookup c = some g → S.ih c = true → Meth S.K (S.ca c) x (S.fa g)
/-- constants as values -/
def toV : D → V
  | .int i => .int i | .bl b => .bl b | .str x => .str x | _ => .non
def isC : D → Bool
  | .int _ | .bl _ | .str _ | .non => true
  | _ => false
/-- the last parameters' defaults -/
def DflF (S : Sta) (g : Nat) (ds : List D) : Prop := (∀ d ∈ ds, isC d = true) ∧ ∃ us, Binds S.K (S.fd g) (S.ps g) us ∧ Vals (ds.map toV) us

section
variable {S : Sta} {C : Orc} {W : WX} {X : Cx}
theorem rep_toV {F : Hp} {d : D} (h : isC d = true) : RepD S F d (toV d) := by
  cases d <;> first | (cases h; done) | exact rep_int (S := S) (F := F) | exact rep_bl (S := S) (F := F) | exact rep_str (S := S) (F := F) | exact rep_non (S := S) (F := F)
theorem repVs_dfl {F : Hp} {μ : Nat → Addr} {k : Nat} : ∀ {ds : List D}, (∀ d ∈ ds, isC d = true) → RepVs S F μ k (ds.map Val.d) (ds.map toV)
  | [], _ => trivial
  | d :: ds, h => ⟨rep_toV (h d List.mem_cons_self), repVs_dfl fun x hx => h x (List.mem_cons_of_mem _ hx)⟩
theorem getF_cases {f : Nat} {cs : List (Nat × Nat)} {v : Val} {M : Mem} {x : D} (h : getF f cs v M = some x) :
    (∃ c fs i, v = .d (.ins c fs) ∧ cs.lookup c = some i ∧ fs[i]? = some x) ∨ ∃ n c fs i, v = .rf n ∧ M[n]? = some (.ins c fs) ∧ cs.lookup c = some i ∧ fs.lookup f = some x := by
  cases v with
  | d y =>
    cases y with
    | ins c fs =>
      have h : ((cs.lookup c).bind fun i => fs[i]?) = some x := h
      cases q : cs.lookup c with
      | none => rw [q] at h; cases h
      | some i =>
        rw [q] at h
        exact .inl ⟨c, fs, i, rfl, q, h⟩
    | _ => cases h
  | rf n =>
    have h : (match M[n]? with
      | some (.ins c fs) => if (cs.lookup c).isSome then fs.lookup f else none
      | _ => none) = some x := h
    cases q : M[n]? with
    | none => rw [q] at h; cases h
    | some c =>
      rw [q] at h
      cases c with
      | ins c fs =>
        simp only at h
        cases q2 : cs.lookup c with
        | none => rw [q2] at h; cases h
        | some i =>
          rw [q2] at h
          exact .inr ⟨n, c, fs, i, rfl, q, q2, by simpa using h⟩
      | _ => cases h
theorem lookup_names (B : BaseF S) {f : Nat} (hf : S.fok f = true) {F : Hp} {x : D} : ∀ {fs : List (Nat × D)} {vs : List V}, (∀ p ∈ fs, S.fok p.1 = true) → RepL S F (fs.map (·.2)) vs → fs.lookup f = some x →
    ∃ v, ((fs.map fun p => S.fnm p.1).zip vs).lookup (S.fnm f) = some v ∧ RepD S F x v
  | [], vs, _, _, e => by simp at e
  | (g, y) :: fs, vs, hk, r, e => by
    obtain ⟨v, ws, rfl, r1, r2⟩ := repL_cons r
    have hg : S.fok g = true := hk (g, y) List.mem_cons_self
    by_cases h : f = g
    · subst h
      simp at e
      subst e
      exact ⟨v, by simp, r1⟩
    · obtain ⟨u, k1, k2⟩ := lookup_names B hf (fun p hp => hk p (List.mem_cons_of_mem _ hp)) r2 (by
        rw [List.lookup_cons] at e
        have : (f == g) = false := by simpa using h
        rw [this] at e
        exact e)
      refine ⟨u, ?_, k2⟩
      rw [List.map_cons, List.zip_cons_cons, List.lookup_cons]
      have : (S.fnm f == S.fnm g) = false := by
        rw [beq_eq_false_iff_ne]
        exact fun z => h (B.inj f g hf hg z)
      rw [this]
      exact k1
theorem lookup_no {ns : List Str} {m : Str} : ∀ {vs : List V}, m ∉ ns → (ns.zip vs).lookup m = none := by
  induction ns with
  | nil => intro vs _; rfl
  | cons n ns ih =>
    intro vs h
    rw [List.mem_cons, not_or] at h
    cases vs with
    | nil => rfl
    | cons v vs =>
      rw [List.zip_cons_cons, List.lookup_cons]
      have : (m == n) = false := by rw [beq_eq_false_iff_ne]; exact h.1
      rw [this]
      exact ih h.2
/-- an instance, there -/
theorem cls_rep (B : BaseF S) {v : Val} {M : Mem} {c : Nat} {μ : Nat → Addr} {F H : Hp} {w : V} (h : clsOf v M = some c) (m : MemR S μ F M H) (r : RepV S F μ M.length v w) :
    S.ih c = true ∧ ∃ a dx gs, w = V.ref a ∧ H a = some (.ins (S.ca c) dx gs) ∧ ∀ x : Str, (∀ f, S.fok f = true → S.fnm f ≠ x) → gs.lookup x = none := by
  cases v with
  | d y =>
    cases y with
    | ins d fs =>
      have h : some d = some c := h
      cases h
      obtain ⟨hc, a, dx, vs, rfl, q1, q2, q3⟩ := repD_ins (S := S) (F := F) r
      refine ⟨hc, a, dx, _, rfl, m.sub _ _ q1, fun x hx => lookup_no ?_⟩
      intro z
      unfold Sta.names at z
      obtain ⟨f, hf, rfl⟩ := List.mem_map.mp z
      exact hx f (B.cf c hc f hf) rfl
    | _ => cases h
  | rf n =>
    obtain ⟨hn, rfl⟩ := (show n < M.length ∧ w = V.ref (μ n) from r)
    have h : (match M[n]? with
      | some (.ins c _) => some c
      | _ => none) = some c := h
    cases q : M[n]? with
    | none => rw [q] at h; cases h
    | some d =>
      rw [q] at h
      cases d with
      | ins d fs =>
        have h : some d = some c := h
        cases h
        obtain ⟨k0, kk, k1, dx, vs, k2, k3, k4⟩ := m.cell n _ q
        refine ⟨k0, _, dx, _, rfl, k2, fun x hx => lookup_no ?_⟩
        intro z
        obtain ⟨p, hp, rfl⟩ := List.mem_map.mp z
        exact hx _ (kk p hp) rfl
      | _ => cases h
theorem rE_fld (B : BaseF S) {x : Str} {f : Nat} {cs : List (Nat × Nat)} (ff : FldF S x f cs) {e : IE} {σ : Sl} {H : Hp} {Q : VK} (q : rE S C W (.fld f cs e) σ H Q) : tFld S.K (rE S C W e) x σ H Q := by
  obtain ⟨μ, F, env, M, r, hM, hE, hd, hk⟩ := q
  unfold denE at hd
  refine rE_bnd hM hE hd hk fun μ1 F1 H1 v M1 w a1 m1 e1 q1 h1 k1 => ?_
  cases g : getF f cs v M1 with
  | none => rw [g] at h1; cases h1
  | some y =>
    rw [g] at h1
    cases h1
    rcases getF_cases g with ⟨c, fs, i, rfl, hl, hi⟩ | ⟨n, c, fs, i, rfl, hn, hl, hi⟩
    · obtain ⟨hc, a, dx, vs, rfl, p1, p2, p3⟩ := repD_ins (S := S) (F := F1) q1
      obtain ⟨na, lk⟩ := ff.at_ c i hl hc
      obtain ⟨u, hu, ru⟩ := repL_get p3 hi
      exact ⟨a, _, dx, _, u, rfl, m1.sub _ _ p1, (B.ins c hc).cl, na, (lk vs p2).trans hu, k1 μ1 F1 H1 u Aft.refl m1 ru⟩
    · obtain ⟨hn2, rfl⟩ := (show n < M1.length ∧ w = V.ref (μ1 n) from q1)
      obtain ⟨k0, kk, kf, dx, vs, kh, kl, kr⟩ := m1.cell n _ hn
      obtain ⟨na, -⟩ := ff.at_ c i hl k0
      obtain ⟨u, hu, ru⟩ := lookup_names B ff.ok kk kr hi
      rw [ff.nm] at hu
      exact ⟨_, _, dx, _, u, rfl, kh, (B.ins c k0).cl, na, hu, k1 μ1 F1 H1 u Aft.refl m1 ru⟩
abbrev okT (S : Sta) (tbl : List (Nat × Nat)) (i : Nat × Nat) : Prop := tbl.lookup i.1 = some i.2 ∧ S.ih i.1 = true
theorem bind_lookup {o : Option Nat} {tbl : List (Nat × Nat)} {g : Nat} (h : (o.bind fun c => tbl.lookup c) = some g) : ∃ c, o = some c ∧ tbl.lookup c = some g := by
  cases o with
  | none => cases h
  | some c => exact ⟨c, rfl, h⟩
theorem rE_prop (B : BaseF S) {tbl : List (Nat × Nat)} {e : IE} {σ : Sl} {H : Hp} {Q : VK} (q : rE S C W (.prop tbl e) σ H Q) : tGop (okT S tbl) (fun i => S.ca i.1) (fun i => spF S C i.2) (rE S C W e) σ H Q := by
  obtain ⟨μ, F, env, M, r, hM, hE, hd, hk⟩ := q
  unfold denE at hd
  refine rE_bnd hM hE hd hk fun μ1 F1 H1 v M1 w a1 m1 e1 q1 h1 k1 => ?_
  cases g : (clsOf v M1).bind (fun c => tbl.lookup c) with
  | none => rw [g] at h1; cases h1
  | some gg =>
    simp only [g] at h1
    obtain ⟨c, hc, hl⟩ := bind_lookup g
    obtain ⟨ih, a, dx, gs, rfl, ha, -⟩ := cls_rep B hc m1 q1
    refine ⟨(c, gg), a, dx, gs, ⟨hl, ih⟩, rfl, ha, μ1, F1, [v], M1, ?_⟩
    cases z : C gg [v] M1 with
    | none => rw [z] at h1; cases h1
    | some rr =>
      rw [z] at h1
      cases rr with
      | ex x M2 => cases h1
      | ok u M2 =>
        cases h1
        exact ⟨_, m1, ⟨q1, trivial⟩, rfl, k1⟩
/-- a promise, the defaults added -/
abbrev spD (S : Sta) (C : Orc) (g : Nat) (ds : List D) : Sp := fun vs H Q E => spF S C g (vs ++ ds.map toV) H Q E
theorem rE_mth (B : BaseF S) {x : Str} {tbl : List (Nat × Nat)} (mf : MthF S x tbl) {ds : List D} (hds : ∀ d ∈ ds, isC d = true) {o : IE} {es : IEs} {σ : Sl} {H : Hp} {Q : VK} (q : rE S C W (.mth tbl (.dfl ds) o es) σ H Q) :
    tGom (okT S tbl) (fun i => S.ca i.1) x (fun i => spD S C i.2 ds) (WE W) (rE S C W o) (rA S C W es) σ H Q := by
  obtain ⟨μ, F, env, M, r, hM, hE, hd, hk⟩ := q
  unfold denE at hd
  refine rE_bnd hM hE hd hk fun μ1 F1 H1 v M1 w a1 m1 e1 q1 h1 k1 => ?_
  cases g : (clsOf v M1).bind (fun c => tbl.lookup c) with
  | none => rw [g] at h1; cases h1
  | some gg =>
    simp only [g] at h1
    obtain ⟨c, hc, hl⟩ := bind_lookup g
    obtain ⟨ih, a, dx, gs, rfl, ha, hn⟩ := cls_rep B hc m1 q1
    refine ⟨(c, gg), a, dx, gs, ⟨hl, ih⟩, rfl, ha, hn x mf.no, rA_bnd m1 e1 h1 k1 fun μ2 F2 H2 vs M2 ws a2 m2 e2 q2 h2 k2 => ?_⟩
    have h2 : C gg (v :: (vs ++ ds.map Val.d)) M2 = some r := h2
    refine ⟨μ2, F2, v :: (vs ++ ds.map Val.d), M2, r, m2, ⟨q1.aft a2, q2.append (repVs_dfl hds)⟩, h2, ?_⟩
    cases r with
    | ok u M3 => exact k2
    | ex x M3 => exact k2
theorem rE_callp {f : Nat} {ds : List D} (hds : ∀ d ∈ ds, isC d = true) {es : IEs} {σ : Sl} {H : Hp} {Q : VK} (q : rE S C W (.callp f (.dfl ds) es) σ H Q) : rA S C W es σ H fun vs H1 => spD S C f ds vs H1 Q (WE W σ) := by
  obtain ⟨μ, F, env, M, res, hM, hE, hd, hk⟩ := q
  unfold denE at hd
  refine rA_bnd hM hE hd hk fun μ1 F1 H1 vs M1 ws a1 m1 e1 q1 h1 k1 => ?_
  have h1 : C f (vs ++ ds.map Val.d) M1 = some res := h1
  refine ⟨μ1, F1, vs ++ ds.map Val.d, M1, res, m1, q1.append (repVs_dfl hds), h1, ?_⟩
  cases res with
  | ok v M2 => exact k1
  | ex x M2 => exact k1
/-- two new objects: the instance, its dict -/
theorem MemR.newIns {μ : Nat → Addr} {F H : Hp} {M : Mem} {c : Nat} {a dx : Addr} (h : MemR S μ F M H) (hc : S.ih c = true) (ha : H a = none) (hdx : H dx = none) (ne : dx ≠ a) :
    MemR S (fun n => if n = M.length then a else μ n) F (M ++ [.ins c []]) (upd (upd H dx (.own a)) a (.ins (S.ca c) dx [])) ∧
      Aft μ F H M.length (fun n => if n = M.length then a else μ n) F (upd (upd H dx (.own a)) a (.ins (S.ca c) dx [])) (M ++ [Cell.ins c []]).length := by
  have g : Grow F F H (upd H dx (.own a)) := ⟨Evl.Ex.refl F, Evl.Ex.new hdx, fun b o e => .inl e, h.sub.trans (Evl.Ex.new hdx)⟩
  have h2 := h.grow g
  have ha2 : upd H dx (.own a) a = none := by rw [upd_ne (Ne.symm ne)]; exact ha
  have r : CellR S F (upd (upd H dx (.own a)) a (.ins (S.ca c) dx [])) a (.ins c []) :=
    ⟨hc, (by intro p hp; cases hp), Evl.fresh_back h.sub ha, dx, [], by rw [upd_same]; rfl, rfl, repL_emp⟩
  obtain ⟨m, f⟩ := h2.cellNew (o := .ins (S.ca c) dx []) ha2 r
  exact ⟨m, (g.aft (μ := μ) (k := M.length)).trans f⟩
theorem repVs_at {F : Hp} {μ : Nat → Addr} {k : Nat} : ∀ {as : List Val} {vs : List V} {i : Nat} {a : Val}, RepVs S F μ k as vs → as[i]? = some a → ∃ v, vs[i]? = some v ∧ RepV S F μ k a v
  | [], vs, i, a, h, e => by simp at e
  | b :: as, vs, i, a, h, e => by
    obtain ⟨v, ws, rfl, h1, h2⟩ := h.cons
    cases i with
    | zero =>
      have e : b = a := by simpa using e
      subst e
      exact ⟨v, rfl, h1⟩
    | succ i => exact repVs_at (i := i) h2 (by simpa using e)
/-- an instance is made: behind the arguments -/
theorem new_core {c f : Nat} (hc : S.ih c = true) {μ1 : Nat → Addr} {F1 H1 : Hp} {M1 : Mem} {wv : List Val} {ws : List V} {res : R Val} {σ : Sl} {Q : VK} (m1 : MemR S μ1 F1 M1 H1) (q1 : RepVs S F1 μ1 M1.length wv ws)
    (h1 : endNew c (S.cf c) M1.length (C f (.rf M1.length :: wv) (M1 ++ [.ins c []])) = some res) (k1 : KE S W μ1 F1 H1 M1.length σ Q res) (a dx : Addr) (ha : H1 a = none) (hdx : H1 dx = none) (ne : dx ≠ a) :
    spF S C f (V.ref a :: ws) (upd (upd H1 dx (.own a)) a (.ins (S.ca c) dx [])) (fun v H2 => v = .non ∧ Q (.ref a) H2) (WE W σ) := by
  obtain ⟨m2, f2⟩ := m1.newIns hc ha hdx ne
  cases z : C f (.rf M1.length :: wv) (M1 ++ [.ins c []]) with
  | none => rw [z] at h1; cases h1
  | some rr =>
    rw [z] at h1
    have ll : (M1 ++ [Cell.ins c []]).length = M1.length + 1 := by simp
    refine ⟨_, F1, .rf M1.length :: wv, M1 ++ [.ins c []], rr, m2, ⟨⟨by rw [ll]; omega, ?_⟩, q1.aft f2⟩, z, ?_⟩
    · show V.ref a = V.ref (if M1.length = M1.length then a else μ1 M1.length)
      rw [if_pos rfl]
    · cases rr with
      | ex x M2 =>
        cases h1
        intro μ' F' H' cls d a3 m3 rx
        have cut : (M2.take M1.length).length = M1.length := by
          have := a3.le
          rw [List.length_take]; omega
        refine k1 μ' F' H' cls d ?_ (m3.take _) rx
        rw [cut]
        exact (f2.trans a3).cut (Nat.le_refl _) (by have := a3.le; omega)
      | ok u M2 =>
        intro μ' F' H' w a3 m3 ru
        cases u with
        | rf n => cases h1
        | d y =>
          cases y with
          | non =>
            refine ⟨repD_non (S := S) (F := F') ru, ?_⟩
            have h1 : (match M2[M1.length]? with
              | some (.ins d fs) => if d = c ∧ fs.map (·.1) = S.cf c then some (R.ok (Val.d (.ins c (fs.map (·.2)))) (M2.take M1.length)) else none
              | _ => none) = some res := h1
            have hl : M1.length < M2.length := by have := a3.le; omega
            cases zc : M2[M1.length]? with
            | none => rw [zc] at h1; cases h1
            | some cc =>
              rw [zc] at h1
              cases cc with
              | ins d fs =>
                simp only at h1
                split at h1
                · rename_i hq
                  obtain ⟨rfl, hq⟩ := hq
                  cases h1
                  have e2 : M2.take (M1.length + 1) = M2.take M1.length ++ [.ins d fs] := by
                    rw [List.take_add_one, zc]
                    rfl
                  have m4 := m3.take (M1.length + 1)
                  rw [e2] at m4
                  have cut : (M2.take M1.length).length = M1.length := by rw [List.length_take]; omega
                  obtain ⟨F5, x5, m5, a5, r5⟩ := m4.freezeIns hq
                  rw [cut] at a5 r5
                  have hmu : μ' M1.length = a := by
                    have := a3.mu M1.length (by rw [ll]; omega)
                    rw [this]
                    exact if_pos rfl
                  rw [hmu] at r5
                  refine k1 μ' F5 H' _ ?_ m5 r5
                  rw [cut]
                  exact ((f2.trans (a3.cut (j := M1.length + 1) (by rw [ll]; omega) (by omega))).trans a5).cut (Nat.le_refl _) (by omega)
                · cases h1
              | _ => cases h1
          | _ => cases h1
theorem rE_new {c f : Nat} {fl : List Nat} (hc : S.ih c = true) (hfl : fl = S.cf c) {ds : List D} (hds : ∀ d ∈ ds, isC d = true) {es : IEs} {σ : Sl} {H : Hp} {Q : VK} (q : rE S C W (.new c fl f (.dfl ds) es) σ H Q) :
    tGon (S.ca c) (spD S C f ds) (WE W) (rA S C W es) σ H Q := by
  subst hfl
  obtain ⟨μ, F, env, M, res, hM, hE, hd, hk⟩ := q
  unfold denE at hd
  refine rA_bnd hM hE hd hk fun μ1 F1 H1 vs M1 ws a1 m1 e1 q1 h1 k1 a dx ha hdx ne => ?_
  have h1 : endNew c (S.cf c) M1.length (C f (.rf M1.length :: (vs ++ ds.map Val.d)) (M1 ++ [.ins c []])) = some res := h1
  exact new_core hc m1 (q1.append (repVs_dfl hds)) h1 k1 a dx ha hdx ne
/-! ### arguments by name -/
def appEs : IEs → IEs → IEs
  | .nil, b => b
  | .cons e a, b => .cons e (appEs a b)
theorem den_app (env : Env) : ∀ (a b : IEs) (M : Mem), denEs C (appEs a b) env M = bnd (denEs C a env M) fun vs M1 => bnd (denEs C b env M1) fun zs M2 => some (.ok (vs ++ zs) M2)
  | .nil, b, M => by
    show denEs C b env M = _
    rw [show denEs C .nil env M = some (.ok [] M) by rw [denEs], bnd_ok]
    cases denEs C b env M with
    | none => rfl
    | some r => cases r <;> rfl
  | .cons e a, b, M => by
    show denEs C (.cons e (appEs a b)) env M = _
    have ex : ∀ r, denEs C (.cons e r) env M = bnd (denE C e env M) fun v M1 => bnd (denEs C r env M1) fun vs M2 => some (.ok (v :: vs) M2) := fun r => by rw [denEs]
    rw [ex, ex]
    cases denE C e env M with
    | none => rfl
    | some r =>
      cases r with
      | ex x M1 => rfl
      | ok v M1 =>
        simp only [bnd_ok]
        rw [den_app env a b M1]
        cases denEs C a env M1 with
        | none => rfl
        | some r2 =>
          cases r2 with
          | ex x M2 => rfl
          | ok vs M2 =>
            simp only [bnd_ok]
            cases denEs C b env M2 with
            | none => rfl
            | some r3 => cases r3 <;> rfl
/-- the values in the parameters' order -/
def pickV (l : List V) (q : List (Nat ⊕ D)) : List V := q.map fun z => match z with
  | .inl i => (l[i]?).getD .non
  | .inr d => toV d
theorem byV_rep {F : Hp} {μ : Nat → Addr} {k : Nat} {vs : List Val} {wv : List V} (r : RepVs S F μ k vs wv) : ∀ {q : List (Nat ⊕ D)} {ws : List Val}, (∀ d, Sum.inr d ∈ q → isC d = true) → byV vs q = some ws → RepVs S F μ k ws (pickV wv q)
  | [], ws, _, h => by
    cases h
    exact trivial
  | .inl i :: q, ws, hd, h => by
    unfold byV at h
    split at h
    · rename_i v ws2 h1 h2
      cases h
      obtain ⟨w, e1, e2⟩ := repVs_at r h1
      refine ⟨?_, byV_rep r (fun d hd' => hd d (List.mem_cons_of_mem _ hd')) h2⟩
      show RepV S F μ k v ((wv[i]?).getD .non)
      rw [e1]
      exact e2
    · cases h
  | .inr d :: q, ws, hd, h => by
    unfold byV at h
    cases e : byV vs q with
    | none => rw [e] at h; cases h
    | some ws2 =>
      rw [e] at h
      cases h
      exact ⟨rep_toV (hd d List.mem_cons_self), byV_rep r (fun d hd' => hd d (List.mem_cons_of_mem _ hd')) e⟩
/-- how the values stand for the parameters, the instance ahead -/
def gVof (q : List (Nat ⊕ D)) (vs zs : List V) : List V := match vs with
  | [] => []
  | a :: r => a :: pickV (r ++ zs) q
theorem rE_newK {c f : Nat} {fl : List Nat} (hc : S.ih c = true) (hfl : fl = S.cf c) {q : List (Nat ⊕ D)} (hq : ∀ d, Sum.inr d ∈ q → isC d = true) {es ks : IEs} {n m : Nat} (hn : ∀ {env : Env} {M M1 : Mem} {vs : List Val}, denEs C es env M = some (.ok vs M1) → vs.length = n)
    (hm : ∀ {env : Env} {M M1 : Mem} {vs : List Val}, denEs C ks env M = some (.ok vs M1) → vs.length = m) {σ : Sl} {H : Hp} {Q : VK} (h : rE S C W (.new c fl f (.by q) (appEs es ks)) σ H Q) :
    tGonK (S.ca c) n m (spF S C f) (gVof q) (WE W) (rA S C W es) (rA S C W ks) σ H Q := by
  subst hfl
  obtain ⟨μ, F, env, M, res, hM, hE, hd, hk⟩ := h
  unfold denE at hd
  rw [den_app] at hd
  have hd : bnd (denEs C es env M) (fun vs M1 => bnd (denEs C ks env M1) fun zs M2 => match Pl.run (.by q) (vs ++ zs) with
      | some ws => endNew c (S.cf c) M2.length (C f (.rf M2.length :: ws) (M2 ++ [.ins c []]))
      | none => none) = some res := by
    rw [← hd]
    cases denEs C es env M with
    | none => rfl
    | some r =>
      cases r with
      | ex x M1 => rfl
      | ok vs M1 =>
        simp only [bnd_ok]
        cases denEs C ks env M1 with
        | none => rfl
        | some r2 => cases r2 <;> rfl
  cases e1 : denEs C es env M with
  | none => rw [e1] at hd; cases hd
  | some r1 =>
    rw [e1] at hd
    cases r1 with
    | ex x M1 =>
      cases hd
      exact ⟨μ, F, env, M, .ex x M1, hM, hE, e1, hk⟩
    | ok vs0 M10 =>
      have len1 := hn e1
      rw [bnd_ok] at hd
      refine rA_bnd (k := fun vs M1 => bnd (denEs C ks env M1) fun zs M2 => match Pl.run (.by q) (vs ++ zs) with
        | some ws => if vs.length = n then endNew c (S.cf c) M2.length (C f (.rf M2.length :: ws) (M2 ++ [.ins c []])) else none
        | none => none) hM hE (by rw [e1, bnd_ok]; simp only [len1, if_true]; exact hd) hk fun μ1 F1 H1 vs M1 ws a1 m1 ee1 q1 h1 k1 => ?_
      cases e2 : denEs C ks env M1 with
      | none => rw [e2] at h1; cases h1
      | some r2 =>
        rw [e2] at h1
        cases r2 with
        | ex x M2 =>
          cases h1
          exact ⟨μ1, F1, env, M1, .ex x M2, m1, ee1, e2, k1⟩
        | ok zs0 M20 =>
          have len2 := hm e2
          rw [bnd_ok] at h1
          refine rA_bnd (k := fun zs M2 => match Pl.run (.by q) (vs ++ zs) with
            | some ws => if vs.length = n ∧ zs.length = m then endNew c (S.cf c) M2.length (C f (.rf M2.length :: ws) (M2 ++ [.ins c []])) else none
            | none => none) m1 ee1 (by
              rw [e2, bnd_ok]
              cases e3 : Pl.run (.by q) (vs ++ zs0) with
              | none => rw [e3] at h1; cases h1
              | some ws3 =>
                rw [e3] at h1
                simp only at h1 ⊢
                split at h1
                · rename_i hh
                  rw [if_pos ⟨hh, len2⟩]
                  exact h1
                · cases h1) k1 fun μ2 F2 H2 zs M2 wz a2 m2 ee2 q2 h2 k2 => ?_
          cases e3 : Pl.run (.by q) (vs ++ zs) with
          | none => rw [e3] at h2; cases h2
          | some ws3 =>
            rw [e3] at h2
            simp only at h2
            split at h2
            · rename_i hh
              refine ⟨by rw [← (q1.aft a2).len]; exact hh.1, by rw [← q2.len]; exact hh.2, fun a dx ha hdx ne => ?_⟩
              exact new_core hc m2 (byV_rep ((q1.aft a2).append q2) hq e3) h2 k2 a dx ha hdx ne
            · cases h2
/-- a class in a variable, called -/
theorem rE_newv {i c f : Nat} {fl : List Nat} (hc : S.ih c = true) (hfl : fl = S.cf c) {ds : List D} (hds : ∀ d ∈ ds, isC d = true) {es : IEs} {σ : Sl} {H : Hp} {Q : VK} (q : rE S C W (.newv i c fl f (.dfl ds) es) σ H Q) :
    σ[i]? = some (some (V.ref (S.ca c))) ∧ tGon (S.ca c) (spD S C f ds) (WE W) (rA S C W es) σ H Q := by
  obtain ⟨μ, F, env, M, res, hM, hE, hd, hk⟩ := q
  unfold denE at hd
  split at hd
  · rename_i d he
    split at hd
    · rename_i e
      subst e
      obtain ⟨w, hs, rw_⟩ := hE.at_ i _ he
      have rw_ : RepD S F (.cls d) w := rw_
      obtain ⟨_, rfl⟩ := (show S.ih d = true ∧ w = V.ref (S.ca d) by simpa only [RepD] using rw_)
      refine ⟨hs, rE_new hc hfl hds ⟨μ, F, env, M, res, hM, hE, ?_, hk⟩⟩
      unfold denE
      exact hd
    · cases hd
  · cases hd
/-- the first argument is a constant -/
theorem rA_cst {d : D} {v : V} (hv : ∀ F, RepD S F d v) {es : IEs} {σ : Sl} {H : Hp} {Q : List V → Hp → Prop} (q : rA S C W (.cons (.cst d) es) σ H Q) : rA S C W es σ H fun vs H1 => Q (v :: vs) H1 := by
  obtain ⟨μ, F, env, M, res, hM, hE, hd, hk⟩ := q
  unfold denEs at hd
  have e : denE C (.cst d) env M = some (.ok (.d d) M) := by unfold denE; rfl
  rw [e, bnd_ok] at hd
  cases h : denEs C es env M with
  | none => rw [h] at hd; cases hd
  | some r =>
    rw [h] at hd
    refine ⟨μ, F, env, M, r, hM, hE, h, ?_⟩
    cases r with
    | ex x M1 => cases hd; exact hk
    | ok vs M1 =>
      cases hd
      exact fun μ' F' H' ws a m r => hk μ' F' H' (v :: ws) a m ⟨hv F', r⟩
end
end PyI

/-! PyI E: == and != of instances, by their class's __eq__. -/
namespace PyI
open PySem PySem.Spec PyProof.Rows L2
open Evl (Ex)
open PySem.W (Looks InstAt findIn isFn subIn mroIn typeIn looks_findIn looks_subIn looks_mroIn)

section
variable {P : Program} {w : World} {A : Around} {Er : Value → Shared → Prop} {s : Shared} {K : PySem.W.Frag} {x C f : Addr} {ox : Obj} {od : Option Obj}
/-- the left side answers -/
theorem rich_left {op : CmpOp} {b tb : Value} {Q : Value → Shared → Prop} (hu : A.units < cLine) (X : K.In s.heap) (I : InstAt s.heap x ox C od) (hb : Looks (model P w) s.heap (typeOf b) tb) (hn : tb = .ref C ∨ subIn K tb (.ref C) = some false)
    (one : wpAny (model P w) A (tryCompare (.ref x) (cmpInfo op).2.1 b) (fun r s' => ∃ v, r = some v ∧ Q v s') Er s) : wpAny (model P w) A (richCompare op (.ref x) b) Q Er s := by
  unfold richCompare
  simp only [oneThing_ref]
  refine wpAny_holding (wpAny_bind (wpAny_cRoomFor hu (wpAny_bind (I.type.here (wpAny_bind (hb.here ?_))))))
  rcases hn with rfl | hn
  · rw [if_neg (by simp)]
    refine wpAny_bind (wpAny_pure ?_)
    rw [if_neg (by simp)]
    refine wpAny_bind (wpAny_mono one (fun p t hp => ?_) fun _ _ y => y)
    obtain ⟨v, rfl, hv⟩ := hp
    exact wpAny_pure hv
  · by_cases q : (Value.ref C != tb) = true
    · rw [if_pos q]
      refine wpAny_bind ((looks_subIn X hn).here ?_)
      rw [if_neg (by simp)]
      refine wpAny_bind (wpAny_mono one (fun p t hp => ?_) fun _ _ y => y)
      obtain ⟨v, rfl, hv⟩ := hp
      exact wpAny_pure hv
    · rw [if_neg q]
      refine wpAny_bind (wpAny_pure ?_)
      rw [if_neg (by simp)]
      refine wpAny_bind (wpAny_mono one (fun p t hp => ?_) fun _ _ y => y)
      obtain ⟨v, rfl, hv⟩ := hp
      exact wpAny_pure hv
/-- the right side, of a class below, answers -/
theorem rich_right {op : CmpOp} {y D : Addr} {oy : Obj} {oe : Option Obj} {Q : Value → Shared → Prop} (hu : A.units < cLine) (X : K.In s.heap) (I : InstAt s.heap x ox C od) (J : InstAt s.heap y oy D oe) (ne : D ≠ C) (hs : subIn K (.ref D) (.ref C) = some true)
    (one : wpAny (model P w) A (tryCompare (.ref y) (cmpInfo op).2.2 (.ref x)) (fun r s' => ∃ v, r = some v ∧ Q v s') Er s) : wpAny (model P w) A (richCompare op (.ref x) (.ref y)) Q Er s := by
  unfold richCompare
  simp only [oneThing_ref]
  refine wpAny_holding (wpAny_bind (wpAny_cRoomFor hu (wpAny_bind (I.type.here (wpAny_bind (J.type.here ?_))))))
  rw [if_pos (by simpa using Ne.symm ne)]
  refine wpAny_bind ((looks_subIn X hs).here ?_)
  simp only [if_true]
  refine wpAny_bind (wpAny_mono one (fun r s' z => ?_) fun _ _ e => e)
  obtain ⟨v, rfl, q⟩ := z
  first | exact wpAny_bind (wpAny_pure q) | exact wpAny_pure q | exact wpAny_bind (wpAny_rule (wpAny_pure q))
/-- __eq__, a def -/
theorem try_eq {b : Value} {Q : Option Value → Shared → Prop} (X : K.In s.heap) (I : InstAt s.heap x ox C od) (he : findIn K (.ref C) "__eq__" = some (some (.ref f))) (hf : isFn K (.ref f) = true)
    (h : wpAny (model P w) A (call (.ref f) [.ref x, b]) (fun v s' => ∃ c : Bool, v = .bool c ∧ Q (some (.bool c)) s') Er s) : wpAny (model P w) A (tryCompare (.ref x) "__eq__" b) Q Er s := by
  unfold tryCompare
  refine wpAny_bind (PySem.W.ifBound_K X I he hf (wpAny_mono h (fun v s' z => ?_) fun _ _ e => e))
  obtain ⟨c, rfl, q⟩ := z
  exact wpAny_pure q
open Builtin in
theorem ne_body {b : Value} {Q : Fin → Shared → Prop} (hu : A.units < cLine) (X : K.In s.heap) (I : InstAt s.heap x ox C od) (he : findIn K (.ref C) "__eq__" = some (some (.ref f))) (hf : isFn K (.ref f) = true)
    (h : wpAny (model P w) A (call (.ref f) [.ref x, b]) (fun v s' => ∃ c : Bool, v = .bool c ∧ Q (.done (.ret (.bool (!c)))) s') Er s) : wpAny (model P w) A (Builtin.«object.__ne__» ⟨[.ref x, b], []⟩) Q Er s := by
  unfold Builtin.«object.__ne__»
  repeat (first
    | with_reducible refine wpAny_cRoomFor hu ?_
    | (refine wpAny_bind (m := callSpecialIfBound? (.ref x) (Str.ofString "__eq__") [b]) (PySem.W.ifBound_K X I he hf (wpAny_mono h (fun v s' z => by
        obtain ⟨c, rfl, q⟩ := z
        repeat (first | exact q | exact wpAny_pure q | exact wpAny_truthy_bool q | (refine wpAny_bind (m := truthy (.bool _)) (wpAny_truthy_bool ?_)) | wp_step)) fun _ _ e => e)))
    | wp_step)
open Builtin in
/-- __ne__ is object's: it asks __eq__ -/
theorem try_ne {b : Value} {Q : Option Value → Shared → Prop} (hu : A.in1.units < cLine) (X : K.In s.heap) (I : InstAt s.heap x ox C od) (hn : findIn K (.ref C) "__ne__" = some (some (.builtin "object.__ne__"))) (hm : mroIn K C (.type "object") = some true)
    (he : findIn K (.ref C) "__eq__" = some (some (.ref f))) (hf : isFn K (.ref f) = true) (h : wpAny (model P w) A.in1 (call (.ref f) [.ref x, b]) (fun v s' => ∃ c : Bool, v = .bool c ∧ Q (some (.bool (!c))) s') Er s) :
    wpAny (model P w) A (tryCompare (.ref x) "__ne__" b) Q Er s := by
  unfold tryCompare
  refine wpAny_bind (NtL.csib (I.type.andThen (looks_findIn X hn)) (PySem.F.slot_object_ne.bind _) ?_)
  refine wpAny_call (codeAny_call_builtin PySem.F.slot_object_ne.plain PySem.F.cmpEntry_ne (PySem.W.check_slot PySem.F.cmpKind_ne PySem.F.cmpSplit_ne (I.type.andThen (looks_mroIn X hm)) (PySem.F.cmpArgs_ne _ _) ?_))
  refine ne_body hu X I he hf (wpAny_mono h (fun v s' z => ?_) fun _ _ e => e)
  obtain ⟨c, rfl, q⟩ := z
  first | exact ⟨c, rfl, wpAny_pure q⟩ | exact ⟨c, rfl, wpAny_pure (wpAny_pure q)⟩ | exact ⟨c, rfl, q⟩
end

/-! ### the rule -/
/-- which classes have an __eq__ of their own; up: (c, d), d a class below c -/
structure EqF (S : Sta) (tbl up : List (Nat × Nat)) : Prop where
  eq : ∀ c g, tbl.lookup c = some g → S.ih c = true → findIn S.K (.ref (S.ca c)) "__eq__" = some (some (.ref (S.fa g))) ∧ isFn S.K (.ref (S.fa g)) = true ∧ findIn S.K (.ref (S.ca c)) "__ne__" = some (some (.builtin "object.__ne__")) ∧
    subIn S.K (.type "tuple") (.ref (S.ca c)) = some false
  no : ∀ c d, S.ih c = true → S.ih d = true → (c, d) ∉ up → S.ca d = S.ca c ∨ subIn S.K (.ref (S.ca d)) (.ref (S.ca c)) = some false
  yes : ∀ c d, S.ih c = true → S.ih d = true → (c, d) ∈ up → S.ca d ≠ S.ca c ∧ subIn S.K (.ref (S.ca d)) (.ref (S.ca c)) = some true
section
variable {S : Sta} {C : Orc} {W : WX} {X : Cx} {CT : CXT} {k : Nat}
/-- what the call of __eq__ is asked for -/
def EqK (neg : Bool) (Q : VK) : VK := fun v H' => ∃ c : Bool, v = .bl c ∧ Q (.bl (if neg then !c else c)) H'
/-- an instance there -/
def InsAt (S : Sta) (H : Hp) (x : V) (c : Nat) : Prop := S.ih c = true ∧ ∃ a dx gs, x = .ref a ∧ H a = some (.ins (S.ca c) dx gs)
def rOwnEq (S : Sta) (C : Orc) (tbl up : List (Nat × Nat)) (neg : Bool) : R2 := fun x y H Q => ∃ c g,
  (tbl.lookup c = some g ∧ InsAt S H x c ∧ ((∃ d, InsAt S H y d ∧ (c, d) ∉ up) ∨ ∃ a ys, y = .ref a ∧ SqT S.K H a ys) ∧ spF S C g [x, y] H (EqK neg Q) fun _ _ _ => False) ∨
  (∃ d, tbl.lookup d = some g ∧ InsAt S H x c ∧ InsAt S H y d ∧ (c, d) ∈ up ∧ spF S C g [y, x] H (EqK neg Q) fun _ _ _ => False)
theorem insAt_look (B : BaseF S) {pins : List (Addr × Obj)} {σ : Sl} {H : Hp} {s : Shared} (I : Inv X pins σ H s) {x : V} {c : Nat} (h : InsAt S H x c) : S.ih c = true ∧ ∃ a ox od, x = .ref a ∧ InstAt s.heap a ox (S.ca c) od := by
  obtain ⟨hc, a, dx, gs, rfl, ha⟩ := h
  obtain ⟨mA, O, _⟩ := ins_get I.hok ha
  obtain ⟨o, J, _⟩ := O.look
  exact ⟨hc, a, _, _, rfl, J⟩
theorem op_ownEq (hK : X.K = S.K) (B : BaseF S) {tbl up : List (Nat × Nat)} (ef : EqF S tbl up) (F : ∀ g, GoR X.prog X.w X.K X.mg X.base CT k (S.fa g) (spF S C g)) (hg : X.A.guards = some []) (hr : Room (k + 1) X.A)
    (hx : ∀ (st : List PySem.Env) (H : Hp) (s : Shared) (e : Value) (s' : Shared), CT st H s (fun _ _ _ => False) e s' → False) (neg : Bool) :
    OpR X (compareOp (if neg then .NotEq else .Eq)) (rOwnEq S C tbl up neg) := by
  -- the call, here or one deeper
  have run : ∀ (A : Around), A = X.A ∨ A = X.A.in1 → ∀ {pins : List (Addr × Obj)} {σ : Sl} {H : Hp} {s : Shared} {Q : VK} {g : Nat} {a : Addr} {y : V} {u : Value}, Inv X pins σ H s → RelV y u → spF S C g [.ref a, y] H (EqK neg Q) (fun _ _ _ => False) →
      wpAny (model X.prog X.w) A (call (.ref (S.fa g)) [.ref a, u]) (fun v s' => ∃ c : Bool, v = .bool c ∧ EP X pins σ Q (.bool (if neg then !c else c)) s') X.xe s := by
    intro A hA pins σ H s Q g a y u I ry q
    have ga : A.guards = some [] := by rcases hA with rfl | rfl <;> exact hg
    have ra : Room k A := by
      rcases hA with rfl | rfl
      · exact hr.mono (Nat.le_succ k)
      · exact hr.in1
    have ea : Env0 X.prog X.w X.K X.mg X.base A X.stack s H := by
      rcases hA with rfl | rfl
      · exact I.env0
      · exact I.env0.in1
    refine wpAny_call (codeAny_mono (F g A X.stack s H [.ref a, u] [.ref a, y] (EqK neg Q) _ ga ra ea (.cons (show L2.RelV (V.ref a) _ from rfl) (.cons ry .nil)) q) fun r s' z => ?_)
    cases r with
    | error er => exact (hx _ _ _ _ _ z).elim
    | ok fl =>
      cases fl with
      | ret v =>
        obtain ⟨z', H', I', rz, c, rfl, qz⟩ := I.after z
        cases (show v = Value.bool c from rz)
        exact ⟨c, rfl, .bl _, H', I', rfl, qz⟩
      | _ => exact False.elim z
  intro pins s σ H x y v u Q I rx ry q
  have hu : X.A.units < cLine := by have := hr.un; omega
  have hu1 : X.A.in1.units < cLine := by have := hr.in1.un; omega
  have kin : S.K.In s.heap := hK ▸ I.kIn
  -- the way of one try
  have one : ∀ {c g : Nat} {a : Addr} {ox : Obj} {od : Option Obj} {z : V} {t : Value}, tbl.lookup c = some g → S.ih c = true → InstAt s.heap a ox (S.ca c) od → RelV z t → spF S C g [.ref a, z] H (EqK neg Q) (fun _ _ _ => False) →
      wpAny (model X.prog X.w) X.A (tryCompare (.ref a) (cmpInfo (if neg then .NotEq else .Eq)).2.1 t) (fun r s' => ∃ v, r = some v ∧ EP X pins σ Q v s') X.xe s := by
    intro c g a ox od z t hl hc J rz q
    obtain ⟨e1, e2, e3, _⟩ := ef.eq c g hl hc
    cases neg with
    | false => exact try_eq kin J e1 e2 (wpAny_mono (run X.A (.inl rfl) I rz q) (fun v s' ⟨b, e, q⟩ => ⟨b, e, _, rfl, q⟩) fun _ _ e => e)
    | true => exact try_ne hu1 kin J e3 (B.ins c hc).hm e1 e2 (wpAny_mono (run X.A.in1 (.inr rfl) I rz q) (fun v s' ⟨b, e, q⟩ => ⟨b, e, _, rfl, q⟩) fun _ _ e => e)
  have op : ∀ p q : Value, compareOp (if neg then .NotEq else .Eq) p q = richCompare (if neg then .NotEq else .Eq) p q := by
    intro p q
    cases neg <;> rfl
  rw [op]
  obtain ⟨c, g, ⟨hl, hx1, hy, q⟩ | ⟨d, hl, hx1, hy, hup, q⟩⟩ := q
  · obtain ⟨hc, a, ox, od, rfl, J⟩ := insAt_look B I hx1
    cases (show v = Value.ref a from rx)
    have o1 := one hl hc J ry q
    rcases hy with ⟨d, hyd, hup⟩ | ⟨b, ys, rfl, hb⟩
    · obtain ⟨hd, b, oy, oe, rfl, J2⟩ := insAt_look B I hyd
      cases (show u = Value.ref b from ry)
      refine rich_left hu kin J J2.type ?_ o1
      rcases ef.no c d hc hd hup with e | e
      · exact .inl (by rw [e])
      · exact .inr e
    · cases (show u = Value.ref b from ry)
      obtain ⟨its, _, p, _⟩ := I.tuple (hK ▸ hb)
      obtain ⟨o, po, pc⟩ : ∃ o, s.heap.get? b = some o ∧ o.cls = .type "tuple" := by
        obtain ⟨o, e1, e2, _⟩ := p
        exact ⟨o, e1, e2⟩
      have lk : Looks (model X.prog X.w) s.heap (typeOf (.ref b)) (.type "tuple") := fun A Q E s k q => wpAny_typeOf_ref (k _ _ po) (by rw [pc]; exact q)
      exact rich_left hu kin J lk (.inr (ef.eq c g hl hc).2.2.2) o1
  · obtain ⟨hc, a, ox, od, rfl, J⟩ := insAt_look B I hx1
    cases (show v = Value.ref a from rx)
    obtain ⟨hd, b, oy, oe, rfl, J2⟩ := insAt_look B I hy
    cases (show u = Value.ref b from ry)
    obtain ⟨e1, e2⟩ := ef.yes c d hc hd hup
    have o1 := one hl hd J2 (t := .ref a) (z := .ref a) rfl q
    refine rich_right hu kin J J2 e1 e2 ?_
    cases neg <;> exact o1
/-- the reading: both sides, then who answers -/
theorem rE_eqo (B : BaseF S) {tbl up : List (Nat × Nat)} {neg : Bool} {a b : IE} {σ : Sl} {H : Hp} {Q : VK} (q : rE S C W (.eqo neg tbl up a b) σ H Q) :
    tOp (fun x y H Q => rOwnEq S C tbl up neg x y H Q ∨ ∃ F, Ex F H ∧ ∃ d e, RepA S F H d x ∧ RepA S F H e y ∧ ∃ z, opD (if neg then .ne else .eq) [d, e] = some z ∧ Gives S F H z Q) (rE S C W a) (rE S C W b) σ H Q := by
  obtain ⟨μ, F, env, M, r, hM, hE, hd, hk⟩ := q
  unfold denE at hd
  refine rE_bnd hM hE hd hk fun μ1 F1 H1 v M1 x a1 m1 e1 q1 h1 k1 => ?_
  refine rE_bnd m1 e1 h1 k1 fun μ2 F2 H2 w M2 y a2 m2 e2 q2 h2 k2 => ?_
  have q1 := q1.aft a2
  have ins : ∀ {v : Val} {x : V} {c : Nat}, clsOf v M2 = some c → RepV S F2 μ2 M2.length v x → InsAt S H2 x c := fun h r => by
    obtain ⟨hc, a, dx, gs, rfl, ha, -⟩ := cls_rep B h m2 r
    exact ⟨hc, a, dx, gs, rfl, ha⟩
  have fin : ∀ {g : Nat} {as : List Val} {ws : List V}, RepVs S F2 μ2 M2.length as ws → (bnd (quiet (C g as M2)) fun r M3 => match asB r with
      | some c => some (R.ok (Val.d (.bl (if neg then !c else c))) M3)
      | none => none) = some r → spF S C g ws H2 (EqK neg Q) fun _ _ _ => False := by
    intro g as ws ra h
    cases z : C g as M2 with
    | none => rw [z] at h; cases h
    | some rr =>
      cases rr with
      | ex x M3 => rw [z] at h; cases h
      | ok u M3 =>
        rw [z] at h
        have h : (match asB u with
          | some c => some (R.ok (Val.d (.bl (if neg then !c else c))) M3)
          | none => none) = some r := h
        refine ⟨μ2, F2, as, M2, _, m2, ra, z, fun μ' F' H' w a3 m3 ru => ?_⟩
        cases hb : asB u with
        | none => rw [hb] at h; cases h
        | some c =>
          rw [hb] at h
          cases h
          exact ⟨c, asB_rep ru hb, k2 μ' F' H' _ a3 m3 (rep_bl (S := S) (F := F'))⟩
  cases we : eqWho tbl up (clsOf v M2) (clsOf w M2) (isTupV w) with
  | some p =>
    obtain ⟨sw, g⟩ := p
    simp only [we] at h2
    refine .inl ?_
    cases hv : clsOf v M2 with
    | none => rw [hv] at we; cases we
    | some c =>
      rw [hv] at we
      cases hw : clsOf w M2 with
      | some d =>
        rw [hw] at we
        have we : (if (c, d) ∈ up then (tbl.lookup d).map fun g => (true, g) else (tbl.lookup c).map fun g => (false, g)) = some (sw, g) := we
        split at we
        · rename_i hup
          cases hl : tbl.lookup d with
          | none => rw [hl] at we; cases we
          | some g' =>
            rw [hl] at we
            cases we
            exact ⟨c, _, .inr ⟨d, hl, ins hv q1, ins hw q2, hup, fin (as := [w, v]) ⟨q2, q1, trivial⟩ h2⟩⟩
        · rename_i hup
          cases hl : tbl.lookup c with
          | none => rw [hl] at we; cases we
          | some g' =>
            rw [hl] at we
            cases we
            exact ⟨c, _, .inl ⟨hl, ins hv q1, .inl ⟨d, ins hw q2, hup⟩, fin (as := [v, w]) ⟨q1, q2, trivial⟩ h2⟩⟩
      | none =>
        rw [hw] at we
        have we : (if isTupV w = true then (tbl.lookup c).map fun g => (false, g) else none) = some (sw, g) := we
        split at we
        · rename_i ht
          cases hl : tbl.lookup c with
          | none => rw [hl] at we; cases we
          | some g' =>
            rw [hl] at we
            cases we
            have tup : ∃ a ys, y = V.ref a ∧ SqT S.K H2 a ys := by
              cases w with
              | rf n => cases ht
              | d z =>
                cases z with
                | tup xs =>
                  obtain ⟨a, vs, rfl, p1, p2⟩ := repD_tup (S := S) (F := F2) q2
                  exact ⟨a, vs, rfl, Evl.ex_t m2.sub p1⟩
                | _ => cases ht
            exact ⟨c, _, .inl ⟨hl, ins hv q1, .inr tup, fin (as := [v, w]) ⟨q1, q2, trivial⟩ h2⟩⟩
        · cases we
  | none =>
    simp only [we] at h2
    split at h2
    · obtain ⟨xs, z, s1, s2, rfl⟩ := runOp_see (by cases neg <;> rfl) h2
      obtain ⟨d, e, rfl, sd, se⟩ := sees_two s1
      exact .inr ⟨F2, m2.sub, d, e, see_ok m2 q1 sd, see_ok m2 q2 se, z, s2, gives_of m2 k2⟩
    · cases h2
end
end PyI

/-! PyI L: == and != of lists of instances, all pairs equal. -/
namespace PyI
open PySem PySem.Spec PyProof.Rows L2 PySem.SeqAt
open Evl (Ex)
section
open AutoSeq1 (wpAny_loadPart')
open MeetsSeq MeetsSeq2 MeetsSeq3 SeqRoads2
variable {prog : Program} {w : World} {A : Around} {R : Result → Shared → Prop}
theorem loop_ne (p q : Addr) (N : Nat) (J : Nat → Shared → Prop)
    (each : GQ.ListI prog w A (fun e t => R (.error e) t) p q N J)
    (done : ∀ t, J N t → R (.ok (.ret (.bool false))) t) (d : Nat) :
    ∀ i : Nat, N - i = d → i ≤ N → ∀ t, J i t →
      wpAny (model prog w) A.in1
        (Builtin.«list.__eq__.loop» ⟨[.ref p, .ref q, rawInt i, rawInt 3], []⟩)
        (GQ.FinOf prog w A R) (fun e t' => R (.error e) t') t := by
  induction d with
  | zero =>
    intro i hd hi t h
    obtain ⟨xs, ys, n, m, e1, e2, z1, z2, _⟩ := each _ _ h
    have hN : i = N := by omega
    have hR := done t (hN ▸ h)
    obtain ⟨hp, g, d, tk, os⟩ := t
    wp_walk using wpAny_loadPart' e1, wpAny_loadPart' e2
    have a1 : xs[((i : Nat) : Int).toNat]? = none := by simp; omega
    have a2 : ys[((i : Nat) : Int).toNat]? = none := by simp; omega
    rw [a1, a2]
    wp_walk using wpAny_loadPart' e1, wpAny_loadPart' e2
    show R (.ok (.ret (.bool (xs.size != ys.size)))) _
    rw [z1, z2]
    simpa using hR
  | succ d ih =>
    intro i hd hi t h
    obtain ⟨xs, ys, n, m, e1, e2, z1, z2, one⟩ := each _ _ h
    have l1 : i < xs.size := by omega
    have l2 : i < ys.size := by omega
    have step := one l1 l2
    obtain ⟨hp, g, d', tk, os⟩ := t
    wp_walk using wpAny_loadPart' e1, wpAny_loadPart' e2
    have a1 : xs[((i : Nat) : Int).toNat]? = some xs[i] := by simp [l1]
    have a2 : ys[((i : Nat) : Int).toNat]? = some ys[i] := by simp [l2]
    have up : ((i : Int) + 1) = ((i + 1 : Nat) : Int) := by omega
    rw [a1, a2]
    refine wpAny_bind (wpAny_mono step (fun r t2 h2 => ?_) fun _ _ x => x)
    obtain ⟨hr, h2⟩ := h2
    subst hr
    have rec_ := ih (i + 1) (by omega) (by omega) t2 h2
    obtain ⟨hp2, g2, d2, tk2, os2⟩ := t2
    wp_walk
    rw [up]
    refine ⟨plainId_quiet plain_eq_loop _, codeAny_builtin entry_eq_loop ?_⟩
    rw [Around.under_plainId plain_eq_loop _]
    exact rec_
theorem body_ne (p q : Addr) (N : Nat) (J : Nat → Shared → Prop)
    (each : GQ.ListI prog w A (fun e t => R (.error e) t) p q N J)
    (done : ∀ t, J N t → R (.ok (.ret (.bool false))) t) {t : Shared} (h : J 0 t) :
    wpAny (model prog w) A.in1 (Builtin.«list.__ne__» ⟨[.ref p, .ref q], []⟩)
      (GQ.FinOf prog w A R) (fun e t' => R (.error e) t') t := by
  obtain ⟨xs, ys, n, m, e1, e2, z1, z2, _⟩ := each _ _ h
  have rec_ := loop_ne (A := A) (R := R) p q N J each done _ 0 rfl (Nat.zero_le _) t h
  obtain ⟨hp, g, d, tk, os⟩ := t
  have sb := AutoSeq1.sub_list_list
  have same : ¬ (xs.size != ys.size) = true := by simp [z1, z2]
  wp_walk using wpAny_loadPart' e1, wpAny_loadPart' e2
  refine ⟨plainId_quiet plain_eq_loop _, codeAny_builtin entry_eq_loop ?_⟩
  rw [Around.under_plainId plain_eq_loop _]
  exact rec_
theorem rich_ne {E : Value → Shared → Prop} {t : Shared} {p q : Addr} {N : Nat} {Q : Value → Shared → Prop} (hu : A.units < cLine)
    (J : Nat → Shared → Prop) (each : GQ.ListI prog w A E p q N J)
    (done : ∀ t, J N t → Q (.bool false) t) (h : J 0 t) :
    wpAny (model prog w) A (richCompare .NotEq (.ref p) (.ref q)) Q E t := by
  obtain ⟨xs, ys, n, m, e1, e2, _, _, _⟩ := each _ _ h
  refine wpAny_richCompare_same_room (op := .NotEq) ⟨_, e1, rfl⟩ ⟨_, e2, rfl⟩ F.slot_list_ne
    (GQ.call_here F.slot_list_ne ⟨_, e1, rfl⟩ F.entry_list_ne (F.args_list_ne_2 _ _) ?_) hu
  exact body_ne (R := wants (fun v t' => v ≠ .notImplemented ∧ Q v t') E) p q N J each
    (fun t' z => ⟨(fun x => nomatch x), done t' z⟩) h
end
open PySem.W (Looks InstAt findIn isFn subIn mroIn typeIn looks_findIn looks_subIn looks_mroIn)
section
variable {S : Sta} {C : Orc} {X : Cx} {CT : CXT} {k : Nat}
theorem InsAt.ext {H H' : Hp} {x : V} {c : Nat} (h : InsAt S H x c) (e : L2.Ext H H') : InsAt S H' x c := by
  obtain ⟨hc, a, dx, gs, rfl, ha⟩ := h
  exact ⟨hc, a, dx, gs, rfl, e _ _ ha⟩
/-- two instances of one class whose own __eq__ says True, now and later -/
def Same (S : Sta) (C : Orc) (tbl : List (Nat × Nat)) (x y : V) (H : Hp) : Prop := ∃ c g, tbl.lookup c = some g ∧ InsAt S H x c ∧ InsAt S H y c ∧
  ∀ H', L2.Ext H H' → spF S C g [x, y] H' (fun v H2 => v = .bl true ∧ L2.Ext H' H2) fun _ _ _ => False
theorem Same.ext {tbl : List (Nat × Nat)} {x y : V} {H H' : Hp} (h : Same S C tbl x y H) (e : L2.Ext H H') : Same S C tbl x y H' := by
  obtain ⟨c, g, h1, h2, h3, h4⟩ := h
  exact ⟨c, g, h1, h2.ext e, h3.ext e, fun H2 e2 => h4 H2 (e.trans e2)⟩
theorem same_run (hK : X.K = S.K) (B : BaseF S) {tbl up : List (Nat × Nat)} (ef : EqF S tbl up) (F : ∀ g, GoR X.prog X.w X.K X.mg X.base CT k (S.fa g) (spF S C g))
    (hx : ∀ (st : List PySem.Env) (H : Hp) (s : Shared) (e : Value) (s' : Shared), CT st H s (fun _ _ _ => False) e s' → False)
    {A : Around} (hg : A.guards = some []) (ra : Room k A) (fr : A.frames = X.A.frames) {pins : List (Addr × Obj)} {σ : Sl} {H : Hp} {s : Shared} {x y : V} {u v : Value} (I : Inv X pins σ H s) (rx : L2.RelV x u) (ry : L2.RelV y v)
    (h : Same S C tbl x y H) : wpAny (model X.prog X.w) A (eqBool u v) (fun r s' => r = true ∧ L2.LoopI X pins σ H s') X.xe s := by
  obtain ⟨c, g, hl, hx1, hy1, hq⟩ := h
  have kin : S.K.In s.heap := hK ▸ I.kIn
  have hu : A.units < cLine := by have := ra.un; omega
  obtain ⟨hc, a, ox, od, rfl, J⟩ := insAt_look B I hx1
  obtain ⟨-, b, oy, oe, rfl, J2⟩ := insAt_look B I hy1
  cases (show u = Value.ref a from rx)
  cases (show v = Value.ref b from ry)
  by_cases hab : a = b
  · subst hab
    exact SeqAt.EqAt.same (A := A) (s := s) (.ref a) X.prog X.w X.xe _ ⟨rfl, H, I, L2.Ext.rfl'⟩
  · obtain ⟨e1, e2, e3, _⟩ := ef.eq c g hl hc
    have ea : Env0 X.prog X.w X.K X.mg X.base A X.stack s H := by
      have e := I.env0
      exact ⟨by rw [fr]; exact e.frames, e.mod, e.bs, e.bsz, e.funs, e.frf, e.hok, e.bare⟩
    refine GQ.eqBool_refG hab (rich_left hu kin J J2.type (.inl rfl) (try_eq kin J e1 e2 ?_))
    refine wpAny_call (codeAny_mono (F g A X.stack s H [.ref a, .ref b] [.ref a, .ref b] _ _ hg ra ea (.cons (show L2.RelV (V.ref a) _ from rfl) (.cons (show L2.RelV (V.ref b) _ from rfl) .nil)) (hq H L2.Ext.rfl')) fun r s' z => ?_)
    cases r with
    | error er => exact (hx _ _ _ _ _ z).elim
    | ok fl =>
      cases fl with
      | ret w =>
        obtain ⟨z', H', I', rz, rfl, ex⟩ := I.after z
        cases (show w = Value.bool true from rz)
        exact ⟨true, rfl, .bool true, rfl, true, rfl, rfl, H', I', ex⟩
      | _ => exact False.elim z
/-- lists whose pairs are found equal -/
def rEqL (S : Sta) (C : Orc) (tbl : List (Nat × Nat)) (neg : Bool) : R2 := fun x y H Q => ∃ a b xs ys, x = .ref a ∧ y = .ref b ∧ H a = some (.lst xs) ∧ H b = some (.lst ys) ∧ xs.length = ys.length ∧
  (∀ (i : Nat) x y, xs[i]? = some x → ys[i]? = some y → Same S C tbl x y H) ∧ ∀ H', L2.Ext H H' → Q (.bl (!neg)) H'
theorem op_eqL (hK : X.K = S.K) (B : BaseF S) {tbl up : List (Nat × Nat)} (ef : EqF S tbl up) (F : ∀ g, GoR X.prog X.w X.K X.mg X.base CT k (S.fa g) (spF S C g)) (hg : X.A.guards = some []) (hr : Room (k + 1) X.A)
    (hx : ∀ (st : List PySem.Env) (H : Hp) (s : Shared) (e : Value) (s' : Shared), CT st H s (fun _ _ _ => False) e s' → False) (neg : Bool) :
    OpR X (compareOp (if neg then .NotEq else .Eq)) (rEqL S C tbl neg) := by
  intro pins s σ H x y v u Q I rx ry h
  obtain ⟨a, b, xs, ys, rfl, rfl, ha, hb, len, same, q⟩ := h
  cases (show v = Value.ref a from rx)
  cases (show u = Value.ref b from ry)
  have hu : X.A.units < cLine := by have := hr.un; omega
  have each : GQ.ListI X.prog X.w X.A X.xe a b xs.length (fun _ s' => L2.LoopI X pins σ H s') := by
    intro i s' z
    obtain ⟨H1, I1, e1⟩ := id z
    obtain ⟨za, its, n1, r1, p1⟩ := I1.hok a _ (e1 _ _ ha)
    obtain ⟨zb, its2, n2, r2, p2⟩ := I1.hok b _ (e1 _ _ hb)
    refine ⟨its.toArray, its2.toArray, n1, n2, p1, p2, by rw [List.size_toArray, ← r1.length], by rw [List.size_toArray, ← r2.length, ← len], fun l1 l2 => ?_⟩
    have k1 : i < its.length := by simpa using l1
    have k2 : i < its2.length := by simpa using l2
    have x1 : i < xs.length := by rw [r1.length]; exact k1
    have y1 : i < ys.length := by rw [r2.length]; exact k2
    obtain ⟨w1, g1, t1⟩ := r1.get (List.getElem?_eq_getElem x1)
    obtain ⟨w2, g2, t2⟩ := r2.get (List.getElem?_eq_getElem y1)
    have f1 : its.toArray[i] = w1 := by
      rw [List.getElem?_eq_getElem k1] at g1
      simpa using Option.some.inj g1
    have f2 : its2.toArray[i] = w2 := by
      rw [List.getElem?_eq_getElem k2] at g2
      simpa using Option.some.inj g2
    rw [f1, f2]
    refine wpAny_mono (same_run hK B ef F hx (A := X.A.in1) hg hr.in1 rfl I1 t1 t2 ((same i _ _ (List.getElem?_eq_getElem x1) (List.getElem?_eq_getElem y1)).ext e1)) (fun r s2 z2 => ?_) fun _ _ e => e
    obtain ⟨er, H2, I2, e2⟩ := z2
    exact ⟨er, H2, I2, e1.trans e2⟩
  have start : L2.LoopI X pins σ H s := ⟨H, I, L2.Ext.rfl'⟩
  cases neg with
  | false =>
    show wpAny (model X.prog X.w) X.A (richCompare .Eq (.ref a) (.ref b)) (EP X pins σ Q) X.xe s
    exact GQ.rc_listG hu _ each (fun s' ⟨H', I', e⟩ => ⟨.bl true, H', I', rfl, q H' e⟩) start
  | true =>
    show wpAny (model X.prog X.w) X.A (richCompare .NotEq (.ref a) (.ref b)) (EP X pins σ Q) X.xe s
    exact rich_ne hu _ each (fun s' ⟨H', I', e⟩ => ⟨.bl false, H', I', rfl, q H' e⟩) start
theorem pairs_of (B : BaseF S) {tbl : List (Nat × Nat)} {F H : Hp} (ex : Evl.Ex F H) : ∀ {xs ys : List PyI.D} {vs ws : List V}, allSame C tbl xs ys → RepL S F xs vs → RepL S F ys ws → vs.length = ws.length ∧ ∀ (i : Nat) x y, vs[i]? = some x → ws[i]? = some y → Same S C tbl x y H
  | [], [], vs, ws, _, r1, r2 => by
    rw [repL_nil r1, repL_nil r2]
    exact ⟨rfl, fun i x y h _ => by simp at h⟩
  | [], _ :: _, vs, ws, h, _, _ => h.elim
  | _ :: _, [], vs, ws, h, _, _ => h.elim
  | d :: xs, e :: ys, vs, ws, h, r1, r2 => by
    obtain ⟨⟨c, fs, gs, g, rfl, rfl, hl, hc⟩, h2⟩ := h
    obtain ⟨v, vs, rfl, p1, p2⟩ := repL_cons r1
    obtain ⟨w, ws, rfl, q1, q2⟩ := repL_cons r2
    obtain ⟨l, ih⟩ := pairs_of B ex h2 p2 q2
    refine ⟨by simp [l], fun i x y hx hy => ?_⟩
    cases i with
    | succ i => exact ih i x y (by simpa using hx) (by simpa using hy)
    | zero =>
      have hx : v = x := by simpa using hx
      have hy : w = y := by simpa using hy
      subst hx hy
      have at_ : ∀ {fs : List PyI.D} {v : V}, RepD S F (.ins c fs) v → InsAt S H v c := by
        intro fs v r
        obtain ⟨hc, a, dx, us, rfl, q1, q2, q3⟩ := repD_ins (S := S) (F := F) r
        exact ⟨hc, a, dx, _, rfl, ex _ _ q1⟩
      refine ⟨c, g, hl, at_ p1, at_ q1, fun H' e => ?_⟩
      refine ⟨fun _ => 0, F, _, [], _, ⟨fun a o z => e _ _ (ex _ _ z), fun n c e => by simp at e, fun n m h1 => by simp at h1⟩, (show RepVs S F (fun _ => 0) 0 [Val.d (.ins c fs), Val.d (.ins c gs)] [v, w] from ⟨p1, q1, trivial⟩), hc, fun μ' F' H2 w a m r => ?_⟩
      exact ⟨repD_bl (S := S) (F := F') r, fun b o z => a.fr b o z fun n hn => by simp at hn⟩
theorem rE_eql {W : WX} (B : BaseF S) {tbl : List (Nat × Nat)} {neg : Bool} {a b : IE} {σ : Sl} {H : Hp} {Q : VK} (q : rE S C W (.eql neg tbl a b) σ H Q) : tOp (rEqL S C tbl neg) (rE S C W a) (rE S C W b) σ H Q := by
  obtain ⟨μ, F, env, M, r, hM, hE, hd, hk⟩ := q
  unfold denE at hd
  refine rE_bnd hM hE hd hk fun μ1 F1 H1 v M1 x a1 m1 e1 q1 h1 k1 => ?_
  refine rE_bnd m1 e1 h1 k1 fun μ2 F2 H2 w M2 y a2 m2 e2 q2 h2 k2 => ?_
  have q1 := q1.aft a2
  cases v with
  | rf n => cases h2
  | d dv =>
    cases w with
    | rf n => cases dv <;> cases h2
    | d dw =>
      cases dv with
      | lst xs =>
        cases dw with
        | lst ys =>
          unfold runEql at h2
          simp only at h2
          split at h2
          · rename_i hs
            cases h2
            obtain ⟨a, vs, rfl, p1, p2⟩ := (show ∃ a vs, x = V.ref a ∧ F2 a = some (.lst vs) ∧ RepL S F2 xs vs by simpa only [RepV, RepD] using q1)
            obtain ⟨b, ws, rfl, r1, r2⟩ := (show ∃ a vs, y = V.ref a ∧ F2 a = some (.lst vs) ∧ RepL S F2 ys vs by simpa only [RepV, RepD] using q2)
            obtain ⟨len, ps⟩ := pairs_of B m2.sub hs p2 r2
            refine ⟨a, b, vs, ws, rfl, rfl, m2.sub _ _ p1, m2.sub _ _ r1, len, ps, fun H' e => ?_⟩
            have g : Grow F2 F2 H2 H' := ⟨Evl.Ex.refl F2, fun a o z => e a o z, fun b o z => .inl z, m2.sub.trans fun a o z => e a o z⟩
            exact k2 μ2 F2 H' _ (g.aft (μ := μ2) (k := M2.length)) (m2.grow g) (rep_bl (S := S) (F := F2))
          · cases h2
        | _ => cases h2
      | _ => cases h2
end
end PyI

/-! PyI O: in, repr, f-strings, slices, chains of comparisons. -/
namespace PyI
open PySem PySem.Spec PyProof.Rows L2
open Evl (Ex)
section
variable {S : Sta} {C : Orc} {W : WX} {X : Cx} {CT : CXT} {k : Nat}

/-! ### in -/
theorem flat_V {F : Hp} {x : D} {v : V} (h : RepD S F x v) (f : flatD x = true) : flatV v = true := by
  cases x with
  | non => rw [repD_non (S := S) (F := F) h]; rfl
  | bl b => rw [repD_bl (S := S) (F := F) h]; rfl
  | int b => rw [repD_int (S := S) (F := F) h]; rfl
  | str b => rw [repD_str (S := S) (F := F) h]; rfl
  | _ => cases f
theorem flat_eqV {F : Hp} {x y : D} {v w : V} {d e : PyData} (hx : RepD S F x v) (hy : RepD S F y w) (fx : flatD x = true) (fy : flatD y = true) (ex : x.toP = some d) (ey : y.toP = some e) : eqV v w = PyData.eqv d e := by
  cases x with
  | non =>
    rw [repD_non (S := S) (F := F) hx]
    have ex : some PyData.none = some d := by simpa only [D.toP] using ex
    cases ex
    cases y with
    | non => rw [repD_non (S := S) (F := F) hy]; have ey : some PyData.none = some e := (by simpa only [D.toP] using ey); cases ey; simp [eqV, PyData.eqv]
    | bl b => rw [repD_bl (S := S) (F := F) hy]; have ey : some (PyData.bool b) = some e := (by simpa only [D.toP] using ey); cases ey; simp [eqV, PyData.eqv]
    | int b => rw [repD_int (S := S) (F := F) hy]; have ey : some (PyData.int b) = some e := (by simpa only [D.toP] using ey); cases ey; simp [eqV, PyData.eqv]
    | str b => rw [repD_str (S := S) (F := F) hy]; have ey : some (PyData.str b) = some e := (by simpa only [D.toP] using ey); cases ey; simp [eqV, PyData.eqv]
    | _ => cases fy
  | bl a =>
    rw [repD_bl (S := S) (F := F) hx]
    have ex : some (PyData.bool a) = some d := by simpa only [D.toP] using ex
    cases ex
    cases y with
    | non => rw [repD_non (S := S) (F := F) hy]; have ey : some PyData.none = some e := (by simpa only [D.toP] using ey); cases ey; simp [eqV, PyData.eqv]
    | bl b => rw [repD_bl (S := S) (F := F) hy]; have ey : some (PyData.bool b) = some e := (by simpa only [D.toP] using ey); cases ey; simp [eqV, PyData.eqv]
    | int b => rw [repD_int (S := S) (F := F) hy]; have ey : some (PyData.int b) = some e := (by simpa only [D.toP] using ey); cases ey; simp [eqV, PyData.eqv]
    | str b => rw [repD_str (S := S) (F := F) hy]; have ey : some (PyData.str b) = some e := (by simpa only [D.toP] using ey); cases ey; simp [eqV, PyData.eqv]
    | _ => cases fy
  | int a =>
    rw [repD_int (S := S) (F := F) hx]
    have ex : some (PyData.int a) = some d := by simpa only [D.toP] using ex
    cases ex
    cases y with
    | non => rw [repD_non (S := S) (F := F) hy]; have ey : some PyData.none = some e := (by simpa only [D.toP] using ey); cases ey; simp [eqV, PyData.eqv]
    | bl b => rw [repD_bl (S := S) (F := F) hy]; have ey : some (PyData.bool b) = some e := (by simpa only [D.toP] using ey); cases ey; simp [eqV, PyData.eqv]
    | int b => rw [repD_int (S := S) (F := F) hy]; have ey : some (PyData.int b) = some e := (by simpa only [D.toP] using ey); cases ey; simp [eqV, PyData.eqv]
    | str b => rw [repD_str (S := S) (F := F) hy]; have ey : some (PyData.str b) = some e := (by simpa only [D.toP] using ey); cases ey; simp [eqV, PyData.eqv]
    | _ => cases fy
  | str a =>
    rw [repD_str (S := S) (F := F) hx]
    have ex : some (PyData.str a) = some d := by simpa only [D.toP] using ex
    cases ex
    cases y with
    | non => rw [repD_non (S := S) (F := F) hy]; have ey : some PyData.none = some e := (by simpa only [D.toP] using ey); cases ey; simp [eqV, PyData.eqv]
    | bl b => rw [repD_bl (S := S) (F := F) hy]; have ey : some (PyData.bool b) = some e := (by simpa only [D.toP] using ey); cases ey; simp [eqV, PyData.eqv]
    | int b => rw [repD_int (S := S) (F := F) hy]; have ey : some (PyData.int b) = some e := (by simpa only [D.toP] using ey); cases ey; simp [eqV, PyData.eqv]
    | str b => rw [repD_str (S := S) (F := F) hy]; have ey : some (PyData.str b) = some e := (by simpa only [D.toP] using ey); cases ey; simp [eqV, PyData.eqv]
    | _ => cases fy
  | _ => cases fx
theorem flat_any {F : Hp} {x : D} {v : V} {d : PyData} (hx : RepD S F x v) (fx : flatD x = true) (ex : x.toP = some d) : ∀ {ys : List D} {ws : List V} {ds : List PyData}, RepL S F ys ws → ys.all flatD = true → toPs ys = some ds →
    ws.all flatV = true ∧ inV v ws = ds.any fun z => PyData.eqv z d
  | [], ws, ds, r, _, e => by
    rw [repL_nil r]
    have e : some [] = some ds := by simpa only [toPs] using e
    cases e
    exact ⟨rfl, rfl⟩
  | y :: ys, ws, ds, r, f, e => by
    obtain ⟨w, us, rfl, r1, r2⟩ := repL_cons r
    obtain ⟨p, qs, rfl, e1, e2⟩ := toPs_cons e
    rw [List.all_cons, Bool.and_eq_true] at f
    obtain ⟨k1, k2⟩ := flat_any hx fx ex r2 f.2 e2
    refine ⟨by rw [List.all_cons, flat_V r1 f.1, k1] <;> rfl, ?_⟩
    show (eqV w v || inV v us) = _
    rw [List.any_cons, k2, flat_eqV r1 hx f.1 fx e1 ex]
theorem flat_A {F H : Hp} {x : D} {v : V} (h : RepA S F H x v) (f : flatD x = true) : RepD S F x v := by
  cases x <;> first | exact h | cases f
def rInO (K : PySem.W.Frag) (neg : Bool) : R2 := fun x y H Q => rIn K neg x y H Q ∨ ∃ d ds, Dp K H x d ∧ Dp K H y (.list ds) ∧ SeqAt.shaped d = true ∧ SeqAt.shaped (.list ds) = true ∧ Q (.bl (if neg then !(ds.any fun z => PyData.eqv z d) else ds.any fun z => PyData.eqv z d)) H
theorem in_cases {F H : Hp} (ex : Ex F H) {x y : D} {v w : V} {b : Bool} {neg : Bool} {Q : VK} (hx : RepA S F H x v) (hy : RepA S F H y w) (h : inD x y = some b) (q : Q (.bl (if neg then !b else b)) H) : rInO S.K neg v w H Q := by
  cases y with
  | lst ys =>
    simp only [inD] at h
    cases e1 : x.toP with
    | none => simp only [e1] at h; cases h
    | some d =>
      cases e2 : toPs ys with
      | none => simp only [e1, e2] at h; cases h
      | some ds =>
        simp only [e1, e2] at h
        split at h
        · rename_i sh
          cases h
          exact .inr ⟨d, ds, dpA_of ex hx e1, dpA_of (x := .lst ys) ex hy (by simp only [D.toP, e2, Option.map_some]), sh.1, sh.2, q⟩
        · cases h
  | tup ys =>
    simp only [inD] at h
    split at h
    · rename_i f
      cases e1 : x.toP with
      | none => simp only [e1] at h; cases h
      | some d =>
        cases e2 : toPs ys with
        | none => simp only [e1, e2] at h; cases h
        | some ds =>
          simp only [e1, e2] at h
          cases h
          obtain ⟨a, vs, rfl, p1, p2⟩ := repD_tup (S := S) (F := F) hy
          have rx := flat_A hx f.1
          obtain ⟨k1, k2⟩ := flat_any rx f.1 e1 p2 f.2 e2
          refine .inl ⟨a, vs, rfl, .inr (Evl.ex_t ex p1), flat_V rx f.1, k1, ?_⟩
          rw [k2]
          exact q
    · cases h
  | _ => simp only [inD] at h; cases h
theorem two_in : Two0 S .isin (rInO S.K false) := by
  intro F H x y d e z Q ex hx hy h g
  have h : (inD d e).map D.bl = some z := h
  cases q : inD d e with
  | none => rw [q] at h; cases h
  | some b =>
    rw [q] at h
    cases h
    exact in_cases (neg := false) ex hx hy q (g.now ex (rep_bl (S := S) (F := F)))
theorem two_notin : Two0 S .notin (rInO S.K true) := by
  intro F H x y d e z Q ex hx hy h g
  have h : (inD d e).map (fun b => D.bl (!b)) = some z := h
  cases q : inD d e with
  | none => rw [q] at h; cases h
  | some b =>
    rw [q] at h
    cases h
    exact in_cases (neg := true) ex hx hy q (g.now ex (rep_bl (S := S) (F := F)))
theorem op_inO (hu : X.A.units + 65 < cLine) : OpR X (compareOp .In) (rInO X.K false) := by
  intro pins s σ H x y v u Q I rx ry q
  rcases q with q | ⟨d, ds, h1, h2, s1, s2, q⟩
  · exact op_in_seq pins s σ H x y v u Q I rx ry q
  · exact op_inD hu pins s σ H x y v u Q I rx ry ⟨d, ds, h1, h2, s1, s2, q⟩
theorem op_notinO (hu : X.A.units + 65 < cLine) : OpR X (compareOp .NotIn) (rInO X.K true) := by
  intro pins s σ H x y v u Q I rx ry q
  rcases q with q | ⟨d, ds, h1, h2, s1, s2, q⟩
  · exact op_notIn_seq pins s σ H x y v u Q I rx ry q
  · exact op_notInD hu pins s σ H x y v u Q I rx ry ⟨d, ds, h1, h2, s1, s2, q⟩

/-! ### chains -/
theorem rE_chain {o o' : Op} {a b d : IE} {r r' : R2} (ho : o.keeps = false) (ho' : o'.keeps = false) (h : Two0 S o r) (h' : Two0 S o' r') {σ : Sl} {H : Hp} {Q : VK} (q : rE S C W (.chain o o' a b d) σ H Q) : tChain r r' (rE S C W a) (rE S C W b) (rE S C W d) σ H Q := by
  obtain ⟨μ, F, env, M, res, hM, hE, hd, hk⟩ := q
  unfold denE at hd
  refine rE_bnd hM hE hd hk fun μ1 F1 H1 v M1 x a1 m1 e1 q1 h1 k1 => ?_
  refine rE_bnd m1 e1 h1 k1 fun μ2 F2 H2 w M2 y a2 m2 e2 q2 h2 k2 => ?_
  rcases bnd_eq h2 with ⟨t, M3, s3, h3⟩ | ⟨xx, M3, s3, -⟩
  · obtain ⟨xs, z, s1, s2, e⟩ := runOp_see ho s3
    cases e
    obtain ⟨dd, ee, rfl, sd, se⟩ := sees_two s1
    refine h F2 H2 x y dd ee z _ m2.sub (see_ok m2 (q1.aft a2) sd) (see_ok m2 q2 se) s2 fun F' H' u gr ru => ?_
    cases hb : asB (.d z) with
    | none => rw [hb] at h3; cases h3
    | some c =>
      rw [hb] at h3
      refine ⟨c, asB_rep (μ := μ2) (k := M2.length) (show RepV S F' μ2 M2.length (.d z) u from ru) hb, ?_⟩
      have m3 := m2.grow gr
      have a3 : Aft μ2 F2 H2 M2.length μ2 F' H' M2.length := gr.aft
      have e3 := e2.aft a3
      have k3 := k2.weak a3
      cases c with
      | false =>
        have h3 : some (R.ok (Val.d (.bl false)) M2) = some res := h3
        cases h3
        exact k3 μ2 F' H' _ Aft.refl m3 (rep_bl (S := S) (F := F'))
      | true =>
        have h3 : (bnd (denE C d env M2) fun u M4 => runOp o' [w, u] M4) = some res := h3
        rw [if_pos rfl]
        refine rE_bnd m3 e3 h3 k3 fun μ4 F4 H4 u4 M4 w4 a4 m4 e4 q4 h4 k4 => ?_
        obtain ⟨xs, z2, s1', s2', e⟩ := runOp_see ho' h4
        subst e
        obtain ⟨d2, e2', rfl, sd2, se2⟩ := sees_two s1'
        exact h' F4 H4 y w4 d2 e2' z2 Q m4.sub (see_ok m4 ((q2.aft a3).aft a4) sd2) (see_ok m4 q4 se2) s2' (gives_of m4 k4)
  · unfold runOp at s3
    rw [ho] at s3
    simp only [Bool.false_eq_true, if_false] at s3
    cases z : sees M2 [v, w] with
    | none => rw [z] at s3; cases s3
    | some xs =>
      simp only [z] at s3
      cases z2 : opD o xs with
      | none => rw [z2] at s3; cases s3
      | some y => rw [z2] at s3; cases s3

/-! ### slices -/
theorem repL_cut {F : Hp} {xs : List D} {vs : List V} (h : RepL S F xs vs) (lo hi : Option Int) : RepL S F (cutD xs lo hi) (cutV vs lo hi) := by
  unfold cutD cutV
  rw [repL_len h]
  exact repL_take _ (repL_drop _ h)
theorem cutV_all {vs : List V} {lo hi : Option Int} (h1 : HT.sIx vs.length 0 lo = 0) (h2 : HT.sIx vs.length vs.length hi = vs.length) : cutV vs lo hi = vs := by
  unfold cutV
  rw [h1, h2]
  simp
def rSlO (K : PySem.W.Frag) : V → Option Int → Option Int → Hp → VK → Prop := fun x lo hi H Q => rSlL K x lo hi H Q ∨ rSlA K x lo hi H Q
theorem slice_gives {F H : Hp} (ex : Ex F H) {x z : D} {v : V} {lo hi : Option Int} {Q : VK} (hx : RepA S F H x v) (h : sliceD x lo hi = some z) (g : Gives S F H z Q) : rSlO S.K v lo hi H Q := by
  cases x with
  | lst xs =>
    cases h
    obtain ⟨a, vs, rfl, h1, h2⟩ := hx
    refine .inl ⟨a, vs, rfl, Evl.sq_of h1, fun p hp => ?_⟩
    have gr := Grow.one ex (.lst (cutV vs lo hi)) hp
    exact g _ _ _ gr (rep_lst upd_same (repL_ex gr.f _ (repL_cut h2 lo hi)))
  | tup xs =>
    cases h
    obtain ⟨a, vs, rfl, h1, h2⟩ := repD_tup (S := S) (F := F) hx
    refine .inr ⟨a, vs, rfl, Evl.ex_t ex h1, fun hw => ?_, fun _ p hp => ?_⟩
    · refine g.now ex (rep_tup h1 ?_)
      have := repL_cut h2 lo hi
      rwa [cutV_all hw.1 hw.2] at this
    · have gr := Grow.one ex (.tup (cutV vs lo hi)) hp
      exact g _ _ _ gr (rep_tup (Evl.st_of upd_same) (repL_ex gr.f _ (repL_cut h2 lo hi)))
  | _ => cases h
/-- the bounds of a slice -/
def tPartI (S : Sta) (C : Orc) (W : WX) : Option IE → TO
  | none => tNoPart
  | some e => tPart (rE S C W e)
def partEs : Option IE → IEs → IEs
  | none, r => r
  | some e, r => .cons (.anint e) r
theorem den_anint (e : IE) (env : Env) (M : Mem) : denE C (.anint e) env M = bnd (denE C e env M) fun v M1 => match v with
    | .d (.int i) => some (.ok (.d (.int i)) M1)
    | _ => none := by
  rw [denE] <;> rfl
theorem rE_slice {x : IE} {lo hi : Option IE} {σ : Sl} {H : Hp} {Q : VK} (q : rE S C W (.op (.slice lo.isSome hi.isSome) (.cons x (partEs lo (partEs hi .nil)))) σ H Q) : tSl (rSlO S.K) (rE S C W x) (tPartI S C W lo) (tPartI S C W hi) σ H Q := by
  obtain ⟨μ, F, env, M, res, hM, hE, hd, hk⟩ := q
  unfold denE at hd
  -- the arguments, one by one
  have args : ∀ (es : IEs) (k : List Val → Mem → Option (R Val)) (x : IE), (bnd (denEs C (.cons x es) env M) k) = bnd (denE C x env M) fun v M1 => bnd (denEs C es env M1) fun vs M2 => k (v :: vs) M2 := by
    intro es k x
    rw [denEs]
    cases denE C x env M with
    | none => rfl
    | some r =>
      cases r with
      | ex y M1 => rfl
      | ok v M1 =>
        simp only [bnd_ok]
        cases denEs C es env M1 with
        | none => rfl
        | some r2 => cases r2 <;> rfl
  have args2 : ∀ (es : IEs) (k : List Val → Mem → Option (R Val)) (x : IE) (M : Mem), (bnd (denEs C (.cons x es) env M) k) = bnd (denE C x env M) fun v M1 => bnd (denEs C es env M1) fun vs M2 => k (v :: vs) M2 := by
    intro es k x M
    rw [denEs]
    cases denE C x env M with
    | none => rfl
    | some r =>
      cases r with
      | ex y M1 => rfl
      | ok v M1 =>
        simp only [bnd_ok]
        cases denEs C es env M1 with
        | none => rfl
        | some r2 => cases r2 <;> rfl
  have nil : ∀ (k : List Val → Mem → Option (R Val)) (M : Mem), bnd (denEs C .nil env M) k = k [] M := fun k M => by rw [denEs]; rfl
  rw [args] at hd
  refine rE_bnd hM hE hd hk fun μ1 F1 H1 v M1 w a1 m1 e1 q1 h1 k1 => ?_
  -- a bound
  have bound : ∀ {μ : Nat → Addr} {F H : Hp} {M : Mem} {e : IE} {k : Val → Mem → Option (R Val)} {Q2 : Option Int → Hp → Prop}, MemR S μ F M H → EnvR S μ F M.length env σ → bnd (denE C (.anint e) env M) k = some res → KE S W μ F H M.length σ Q res →
      (∀ μ1 F1 H1 i M1, Aft μ F H M.length μ1 F1 H1 M1.length → MemR S μ1 F1 M1 H1 → EnvR S μ1 F1 M1.length env σ → k (.d (.int i)) M1 = some res → KE S W μ1 F1 H1 M1.length σ Q res → Q2 (some i) H1) → tPart (rE S C W e) σ H Q2 := by
    intro μ F H M e k Q2 hM hE hd hk next
    have hd : bnd (denE C e env M) (fun v M1 => match v with
      | .d (.int i) => k (.d (.int i)) M1
      | _ => none) = some res := by
      rw [← hd, den_anint]
      cases denE C e env M with
      | none => rfl
      | some r =>
        cases r with
        | ex y M1 => rfl
        | ok v M1 =>
          simp only [bnd_ok]
          cases v with
          | rf n => rfl
          | d y => cases y <;> rfl
    refine rE_bnd hM hE hd hk fun μ1 F1 H1 v M1 w a1 m1 e1 q1 h1 k1 => ?_
    cases v with
    | rf n => cases h1
    | d y =>
      cases y with
      | int i => exact ⟨i, repD_int (S := S) (F := F1) q1, next μ1 F1 H1 i M1 a1 m1 e1 h1 k1⟩
      | _ => cases h1
  cases lo with
  | none =>
    cases hi with
    | none =>
      have h1 : bnd (denEs C .nil env M1) (fun vs M2 => runOp (.slice false false) (v :: vs) M2) = some res := h1
      rw [nil] at h1
      obtain ⟨xs, z, s1, s2, rfl⟩ := runOp_see rfl h1
      obtain ⟨d, rfl, sd⟩ := sees_one s1
      exact slice_gives m1.sub (see_ok m1 q1 sd) s2 (gives_of m1 k1)
    | some b =>
      have h1 : bnd (denEs C (.cons (.anint b) .nil) env M1) (fun vs M2 => runOp (.slice false true) (v :: vs) M2) = some res := h1
      rw [args2] at h1
      show tPart (rE S C W b) σ H1 fun u H3 => rSlO S.K w none u H3 Q
      refine bound m1 e1 h1 k1 fun μ2 F2 H2 i M2 a2 m2 e2 h2 k2 => ?_
      rw [nil] at h2
      obtain ⟨xs, z, s1, s2, rfl⟩ := runOp_see rfl h2
      obtain ⟨d, e, rfl, sd, se⟩ := sees_two s1
      cases se
      exact slice_gives m2.sub (see_ok m2 (q1.aft a2) sd) s2 (gives_of m2 k2)
  | some a =>
    cases hi with
    | none =>
      have h1 : bnd (denEs C (.cons (.anint a) .nil) env M1) (fun vs M2 => runOp (.slice true false) (v :: vs) M2) = some res := h1
      rw [args2] at h1
      show tPart (rE S C W a) σ H1 fun l H2 => rSlO S.K w l none H2 Q
      refine bound m1 e1 h1 k1 fun μ2 F2 H2 i M2 a2 m2 e2 h2 k2 => ?_
      rw [nil] at h2
      obtain ⟨xs, z, s1, s2, rfl⟩ := runOp_see rfl h2
      obtain ⟨d, e, rfl, sd, se⟩ := sees_two s1
      cases se
      exact slice_gives m2.sub (see_ok m2 (q1.aft a2) sd) s2 (gives_of m2 k2)
    | some b =>
      have h1 : bnd (denEs C (.cons (.anint a) (.cons (.anint b) .nil)) env M1) (fun vs M2 => runOp (.slice true true) (v :: vs) M2) = some res := h1
      rw [args2] at h1
      show tPart (rE S C W a) σ H1 fun l H2 => tPart (rE S C W b) σ H2 fun u H3 => rSlO S.K w l u H3 Q
      refine bound m1 e1 h1 k1 fun μ2 F2 H2 i M2 a2 m2 e2 h2 k2 => ?_
      rw [args2] at h2
      refine bound m2 e2 h2 k2 fun μ3 F3 H3 j M3 a3 m3 e3 h3 k3 => ?_
      rw [nil] at h3
      obtain ⟨xs, z, s1, s2, rfl⟩ := runOp_see rfl h3
      obtain ⟨d, ys, rfl, sd, s1⟩ := sees_cons s1
      obtain ⟨e, g, rfl, se, sg⟩ := sees_two s1
      cases se
      cases sg
      exact slice_gives m3.sub (see_ok m3 ((q1.aft a2).aft a3) sd) s2 (gives_of m3 k3)
end
end PyI

/-! PyI R: repr, f-strings, reversed lists. -/
namespace PyI
open PySem PySem.Spec PyProof.Rows L2
open Evl (Ex)
open PySem.W (findIn isFn)
/-- whose __repr__ is a def -/
def ReprF (S : Sta) (tbl : List (Nat × Nat)) : Prop := ∀ c g, tbl.lookup c = some g → S.ih c = true → findIn S.K (.ref (S.ca c)) "__repr__" = some (some (.ref (S.fa g))) ∧ isFn S.K (.ref (S.fa g)) = true
section
variable {S : Sta} {C : Orc} {W : WX} {X : Cx} {CT : CXT} {k : Nat}
/-- data that repr can show -/
def ShowAt (K : PySem.W.Frag) (H : Hp) (x : V) (y : Str) : Prop := ∃ a d, x = .ref a ∧ Dp K H x d ∧ d.hasDict = false ∧ d.showable = true ∧ d.depth ≤ 64 ∧ d.shown.length ≤ sizeLine ∧ y = d.shown
theorem showD_at {F H : Hp} (ex : Ex F H) {x : D} {v : V} {y : Str} (h : RepA S F H x v) (e : showD x = some y) : ShowAt S.K H v y := by
  unfold showD at e
  cases e1 : x.toP with
  | none => rw [e1] at e; cases e
  | some d =>
    rw [e1] at e
    simp only at e
    split at e
    · rename_i q
      cases e
      obtain ⟨a, ha⟩ : ∃ a, v = V.ref a := by
        cases x with
        | tup xs => obtain ⟨a, vs, rfl, -⟩ := repD_tup (S := S) (F := F) h; exact ⟨a, rfl⟩
        | lst xs => obtain ⟨a, vs, rfl, -⟩ := h; exact ⟨a, rfl⟩
        | frl xs => obtain ⟨a, vs, rfl, -⟩ := repD_frl (S := S) (F := F) h; exact ⟨a, rfl⟩
        | _ => exact absurd q.1 (by simp [isSq])
      exact ⟨a, d, ha, dpA_of ex h e1, q.2.1, q.2.2.1, q.2.2.2.1, q.2.2.2.2, rfl⟩
    · cases e
def rRepr (S : Sta) (C : Orc) (tbl : List (Nat × Nat)) : List V → Hp → VK → Prop := fun vs H Q => ∃ x, vs = [x] ∧
  ((∃ c g, tbl.lookup c = some g ∧ InsAt S H x c ∧ spF S C g [x] H (fun v H' => ∃ y, v = .str y ∧ Q (.str y) H') fun _ _ _ => False) ∨ (∃ i : Int, x = .int i ∧ i.natAbs.log2 < 1920 ∧ Q (.str (toString i)) H) ∨ ∃ y, ShowAt S.K H x y ∧ Q (.str y) H)
theorem call_repr (hK : X.K = S.K) (B : BaseF S) {tbl : List (Nat × Nat)} (rf : ReprF S tbl) (F : ∀ g, GoR X.prog X.w X.K X.mg X.base CT k (S.fa g) (spF S C g)) (hg : X.A.guards = some []) (hr : Room (k + 1) X.A)
    (hx : ∀ (st : List PySem.Env) (H : Hp) (s : Shared) (e : Value) (s' : Shared), CT st H s (fun _ _ _ => False) e s' → False) : CallR X (.builtin "repr") (rRepr S C tbl) := by
  intro pins s σ H xs us Q I r q
  obtain ⟨x, rfl, q⟩ := q
  obtain ⟨u, rfl, ru⟩ := vals1 r
  have un := hr.un
  rcases q with ⟨c, g, hl, hi, q⟩ | ⟨i, rfl, hz, q⟩ | ⟨y, ⟨a, d, rfl, dp, h1, h2, h3, h4, rfl⟩, q⟩
  · obtain ⟨hc, a, ox, od, rfl, J⟩ := insAt_look B I hi
    cases (show u = Value.ref a from ru)
    obtain ⟨e1, e2⟩ := rf c g hl hc
    obtain ⟨m, fr⟩ := I.fr
    have in1 := hr.in1.un
    refine PySem.W.repr_K (by omega) fr I.ok.mod.kin J (by rw [hK]; exact e1) (by rw [hK]; exact e2) ?_
    refine wpAny_call (codeAny_mono (F g X.A.in1 X.stack s H [.ref a] [.ref a] _ _ hg hr.in1 I.env0.in1 (.cons (show L2.RelV (V.ref a) _ from rfl) .nil) q) fun r s' z => ?_)
    cases r with
    | error er => exact (hx _ _ _ _ _ z).elim
    | ok fl =>
      cases fl with
      | ret v =>
        obtain ⟨z', H', I', rz, y, rfl, qz⟩ := I.after z
        obtain ⟨t, rfl⟩ := rz
        exact ⟨.str y, H', I', ⟨t, rfl⟩, qz⟩
      | _ => exact False.elim z
  · obtain ⟨t, rfl⟩ := ru
    exact PySem.P.repr_of_int hz ⟨.str _, H, I.tok _, ⟨_, rfl⟩, q⟩
  · cases (show u = Value.ref a from ru)
    obtain ⟨as, rd⟩ := Dp.reads I d (.ref a) (.ref a) (hK ▸ dp) rfl
    exact repr_of_reads' rd h2 (PyData.noDict_hsm h1) hg (by omega) (fun _ _ e => e) (fun h' t tk hk => ⟨.str d.shown, H, I.kept (t' := tk) hk, ⟨_, rfl⟩, q⟩) h4
theorem rE_rpr (B : BaseF S) {tbl : List (Nat × Nat)} {e : IE} {σ : Sl} {H : Hp} {Q : VK} (q : rE S C W (.rpr tbl e) σ H Q) : tCB (rRepr S C tbl) (tCons (rE S C W e) tNil) σ H Q := by
  obtain ⟨μ, F, env, M, res, hM, hE, hd, hk⟩ := q
  unfold denE at hd
  refine rE_bnd hM hE hd hk fun μ1 F1 H1 v M1 w a1 m1 e1 q1 h1 k1 => ⟨w, rfl, ?_⟩
  cases hc : clsOf v M1 with
  | some c =>
    simp only [hc] at h1
    cases hl : tbl.lookup c with
    | none => rw [hl] at h1; cases h1
    | some g =>
      simp only [hl] at h1
      obtain ⟨ih, a, dx, gs, rfl, ha, -⟩ := cls_rep B hc m1 q1
      refine .inl ⟨c, g, hl, ⟨ih, a, dx, gs, rfl, ha⟩, ?_⟩
      cases z : C g [v] M1 with
      | none => rw [z] at h1; cases h1
      | some rr =>
        rw [z] at h1
        cases rr with
        | ex x M2 => cases h1
        | ok u M2 =>
          cases u with
          | rf n => cases h1
          | d y =>
            cases y with
            | str y =>
              cases h1
              refine ⟨μ1, F1, [v], M1, _, m1, ⟨q1, trivial⟩, z, fun μ' F' H' w a3 m3 ru => ?_⟩
              exact ⟨y, repD_str (S := S) (F := F') ru, k1 μ' F' H' _ a3 m3 (rep_str (S := S) (F := F'))⟩
            | _ => cases h1
  | none =>
    simp only [hc] at h1
    obtain ⟨xs, z, s1, s2, rfl⟩ := runOp_see rfl h1
    obtain ⟨d, rfl, sd⟩ := sees_one s1
    have ra := see_ok m1 q1 sd
    have fin : ∀ y, z = .str y → Q (.str y) H1 := fun y e => by
      subst e
      exact k1 μ1 F1 H1 _ Aft.refl m1 (rep_str (S := S) (F := F1))
    have two : ∀ d : D, (∀ i, d ≠ .int i) → opD .repr [d] = (showD d).map .str := fun d hn => by
      cases d <;> first | rfl | exact absurd rfl (hn _)
    by_cases hi : ∃ i, d = .int i
    · obtain ⟨i, rfl⟩ := hi
      have s2 : (if i.natAbs.log2 < 1920 then some (D.str (toString i)) else none) = some z := s2
      split at s2
      · rename_i hz
        cases s2
        exact .inr (.inl ⟨i, repD_int (S := S) (F := F1) ra, hz, fin _ rfl⟩)
      · cases s2
    · rw [two d fun i e => hi ⟨i, e⟩] at s2
      cases q2 : showD d with
      | none => rw [q2] at s2; cases s2
      | some y =>
        rw [q2] at s2
        cases s2
        exact .inr (.inr ⟨y, showD_at m1.sub ra q2, fin y rfl⟩)

/-! ### f-strings -/
def rFmt (K : PySem.W.Frag) (x : V) (H : Hp) (Q : VK) : Prop := (∃ y : Str, x = .str y ∧ y.length ≤ sizeLine ∧ Q (.str y) H) ∨ (∃ i : Int, x = .int i ∧ i.natAbs.log2 < 1920 ∧ Q (.str (toString i)) H) ∨ ∃ y, ShowAt K H x y ∧ Q (.str y) H
theorem pe_fmtO {e : Expr} {te : TE} {pos : Pos} (hg : X.A.guards = some []) (hr : Room (k + 1) X.A) (he : PE X e te) : PE X (.FormattedValue e (-1) none pos) (fun σ H Q => te σ H fun x H1 => rFmt X.K x H1 Q) := by
  refine ⟨fun pins s σ H Q I h => wpAny_FormattedValue_plain (thn (he.run pins s σ H _ I h) fun v s1 hv => ?_)⟩
  obtain ⟨x, H1, I1, r1, q⟩ := hv
  have un := hr.un
  rcases q with ⟨y, rfl, hz, q⟩ | ⟨i, rfl, hz, q⟩ | ⟨y, ⟨a, d, rfl, dp, h1, h2, h3, h4, rfl⟩, q⟩
  · obtain ⟨t, rfl⟩ := r1
    exact wpAny_formatField_str ⟨V.str y, H1, I1, ⟨t, rfl⟩, q⟩ ⟨V.str y, H1, I1.tok _, ⟨_, rfl⟩, q⟩ hz
  · obtain ⟨t, rfl⟩ := r1
    exact wpAny_formatField_int hz ⟨V.str (toString i), H1, I1.tok _, ⟨_, rfl⟩, q⟩
  · cases (show v = Value.ref a from r1)
    obtain ⟨as, rd⟩ := Dp.reads I1 d (.ref a) (.ref a) dp rfl
    exact formatField_of_reads rd h2 (PyData.noDict_hsm h1) hg (by omega) (fun _ _ e => e) (fun h' t tk hk => ⟨.str d.shown, H1, I1.kept (t' := tk) hk, ⟨_, rfl⟩, q⟩) h4
theorem one_fmt : One0 S .fmt (rFmt S.K) := by
  intro F H x d z Q ex hx h g
  have h : (fmtD d).map D.str = some z := h
  cases q : fmtD d with
  | none => rw [q] at h; cases h
  | some y =>
    rw [q] at h
    cases h
    have fin : Q (.str y) H := g.now ex (rep_str (S := S) (F := F))
    cases d with
    | str w =>
      have q : (if w.length ≤ sizeLine then some w else none) = some y := q
      split at q
      · cases q
        exact .inl ⟨_, repD_str (S := S) (F := F) hx, by assumption, fin⟩
      · cases q
    | int i =>
      have q : (if i.natAbs.log2 < 1920 then some (toString i : Str) else none) = some y := q
      split at q
      · cases q
        exact .inr (.inl ⟨i, repD_int (S := S) (F := F) hx, by assumption, fin⟩)
      · cases q
    | tup xs => exact .inr (.inr ⟨y, showD_at ex hx q, fin⟩)
    | lst xs => exact .inr (.inr ⟨y, showD_at ex hx q, fin⟩)
    | _ => cases q
/-- the readings of the pieces -/
def rEsL (S : Sta) (C : Orc) (W : WX) : IEs → List TE
  | .nil => []
  | .cons e es => rE S C W e :: rEsL S C W es
theorem den_fcons (e : IE) (es : IEs) (acc : Str) (env : Env) (M : Mem) : denF C (.cons e es) acc env M = bnd (denE C e env M) fun v M1 => match v with
    | .d (.str y) => if (acc ++ y).length ≤ sizeLine then denF C es (acc ++ y) env M1 else none
    | _ => none := by
  rw [denF] <;> rfl
theorem tJs_of {Q1 : Str → Hp → Prop} {σ : Sl} {Q : VK} (hq : ∀ y H', Q (.str y) H' → Q1 y H') {env : Env} {res : R Val} : ∀ {es : IEs} {μ : Nat → Addr} {F H : Hp} {M : Mem} {acc : Str}, MemR S μ F M H → EnvR S μ F M.length env σ →
    denF C es acc env M = some res → KE S W μ F H M.length σ Q res → tJs (rEsL S C W es) acc σ H Q1
  | .nil, μ, F, H, M, acc, hM, hE, hd, hk => by
    unfold denF at hd
    cases hd
    exact hq _ _ (hk μ F H _ Aft.refl hM (rep_str (S := S) (F := F)))
  | .cons e es, μ, F, H, M, acc, hM, hE, hd, hk => by
    rw [den_fcons] at hd
    refine rE_bnd hM hE hd hk fun μ1 F1 H1 v M1 w a1 m1 e1 q1 h1 k1 => ?_
    cases v with
    | rf n => cases h1
    | d z =>
      cases z with
      | str y =>
        have h1 : (if (acc ++ y).length ≤ sizeLine then denF C es (acc ++ y) env M1 else none) = some res := h1
        split at h1
        · rename_i hz
          exact ⟨y, repD_str (S := S) (F := F1) q1, hz, tJs_of hq m1 e1 h1 k1⟩
        · cases h1
      | _ => cases h1
theorem rE_fstr {es : IEs} {σ : Sl} {H : Hp} {Q : VK} (q : rE S C W (.fstr es) σ H Q) : tJs (rEsL S C W es) Str.empty σ H fun out H1 => Q (.str out) H1 := by
  obtain ⟨μ, F, env, M, res, hM, hE, hd, hk⟩ := q
  unfold denE at hd
  exact tJs_of (fun _ _ z => z) hM hE hd hk
theorem rE_rev {e : IE} {σ : Sl} {H : Hp} {Q : VK} (q : rE S C W (.op .rev (.cons e .nil)) σ H Q) : tRevL S.K (rE S C W e) σ H Q := by
  refine rE_one (r := fun x H Q => ∃ a xs, x = V.ref a ∧ SqL S.K H a xs ∧ ∀ p, H p = none → Q (.ref p) (upd H p (.lst xs.reverse))) rfl (fun F H x d z Q ex hx h g => ?_) q
  cases d with
  | lst xs =>
    cases h
    obtain ⟨a, vs, rfl, h1, h2⟩ := hx
    refine ⟨a, vs, rfl, Evl.sq_of h1, fun p hp => ?_⟩
    have gr := Grow.one ex (.lst vs.reverse) hp
    have rr : ∀ {xs : List D} {vs : List V} {F : Hp}, RepL S F xs vs → RepL S F xs.reverse vs.reverse := by
      intro xs
      induction xs with
      | nil => intro vs F h; rw [repL_nil h]; exact repL_emp
      | cons x xs ih =>
        intro vs F h
        obtain ⟨v, ws, rfl, r1, r2⟩ := repL_cons h
        rw [List.reverse_cons, List.reverse_cons]
        exact repL_app (ih r2) (repL_one r1)
    exact g _ _ _ gr (rep_lst upd_same (repL_ex gr.f _ (rr h2)))
  | _ => cases h
end
end PyI

/-! PyI 6: targets, statements, while. -/
namespace PyI
open PySem PySem.Spec PyProof.Rows L2
open Evl (Ex)

/-- what is wanted behind a statement -/
def KS (S : Sta) (W : WX) (μ : Nat → Addr) (F H : Hp) (k : Nat) (D : Ends) : Fl → Prop
  | .nx env M => ∀ μ' F' H' σ', Aft μ F H k μ' F' H' M.length → MemR S μ' F' M H' → EnvR S μ' F' M.length env σ' → D.nx σ' H'
  | .rt v M => ∀ μ' F' H' w, Aft μ F H k μ' F' H' M.length → MemR S μ' F' M H' → RepV S F' μ' M.length v w → D.rt w H'
  | .bk env M => ∀ μ' F' H' σ', Aft μ F H k μ' F' H' M.length → MemR S μ' F' M H' → EnvR S μ' F' M.length env σ' → D.bk σ' H'
  | .ct env M => ∀ μ' F' H' σ', Aft μ F H k μ' F' H' M.length → MemR S μ' F' M H' → EnvR S μ' F' M.length env σ' → D.ct σ' H'
  | .ex x env M => ∀ μ' F' H' σ' cls d, Aft μ F H k μ' F' H' M.length → MemR S μ' F' M H' → EnvR S μ' F' M.length env σ' → RepX S F' x cls d → W cls d σ' H'
def rS (S : Sta) (C : Orc) (W : WX) (s : IS) : TS := fun D σ H =>
  ∃ μ F env M f, MemR S μ F M H ∧ EnvR S μ F M.length env σ ∧ denS C s env M = some f ∧ KS S W μ F H M.length D f
def rSs (S : Sta) (C : Orc) (W : WX) (s : ISs) : TS := fun D σ H =>
  ∃ μ F env M f, MemR S μ F M H ∧ EnvR S μ F M.length env σ ∧ denSs C s env M = some f ∧ KS S W μ F H M.length D f
section
variable {S : Sta} {C : Orc} {W : WX} {X : Cx}
theorem KS.weak {μ μ1 : Nat → Addr} {F F1 H H1 : Hp} {k k1 : Nat} {D : Ends} {f : Fl} (a : Aft μ F H k μ1 F1 H1 k1) (h : KS S W μ F H k D f) : KS S W μ1 F1 H1 k1 D f := by
  cases f with
  | nx env M => exact fun μ' F' H' σ' b m q => h μ' F' H' σ' (a.trans b) m q
  | rt v M => exact fun μ' F' H' w b m q => h μ' F' H' w (a.trans b) m q
  | bk env M => exact fun μ' F' H' σ' b m q => h μ' F' H' σ' (a.trans b) m q
  | ct env M => exact fun μ' F' H' σ' b m q => h μ' F' H' σ' (a.trans b) m q
  | ex x env M => exact fun μ' F' H' σ' c d b m q => h μ' F' H' σ' c d (a.trans b) m q
/-- an expression, then the rest of the statement -/
theorem rE_bndS {e : IE} {σ : Sl} {H : Hp} {D : Ends} {μ : Nat → Addr} {F : Hp} {env : Env} {M : Mem} {k : Val → Mem → Option Fl} {f : Fl} {Q1 : VK}
    (hM : MemR S μ F M H) (hE : EnvR S μ F M.length env σ) (hd : bndS (denE C e env M) env k = some f) (hk : KS S W μ F H M.length D f)
    (next : ∀ μ1 F1 H1 v M1 w, Aft μ F H M.length μ1 F1 H1 M1.length → MemR S μ1 F1 M1 H1 → EnvR S μ1 F1 M1.length env σ → RepV S F1 μ1 M1.length v w → k v M1 = some f → KS S W μ1 F1 H1 M1.length D f → Q1 w H1) :
    rE S C W e σ H Q1 := by
  rcases bndS_eq hd with ⟨v, M1, e1, h1⟩ | ⟨x, M1, e1, e2⟩
  · exact ⟨μ, F, env, M, _, hM, hE, e1, fun μ1 F1 H1 w a m q => next μ1 F1 H1 v M1 w a m (hE.aft a) q h1 (hk.weak a)⟩
  · subst e2
    exact ⟨μ, F, env, M, _, hM, hE, e1, fun μ1 F1 H1 c d a m q => hk μ1 F1 H1 σ c d a m (hE.aft a) q⟩
theorem rA_bndS {es : IEs} {σ : Sl} {H : Hp} {D : Ends} {μ : Nat → Addr} {F : Hp} {env : Env} {M : Mem} {k : List Val → Mem → Option Fl} {f : Fl} {Q1 : List V → Hp → Prop}
    (hM : MemR S μ F M H) (hE : EnvR S μ F M.length env σ) (hd : bndS (denEs C es env M) env k = some f) (hk : KS S W μ F H M.length D f)
    (next : ∀ μ1 F1 H1 vs M1 ws, Aft μ F H M.length μ1 F1 H1 M1.length → MemR S μ1 F1 M1 H1 → EnvR S μ1 F1 M1.length env σ → RepVs S F1 μ1 M1.length vs ws → k vs M1 = some f → KS S W μ1 F1 H1 M1.length D f → Q1 ws H1) :
    rA S C W es σ H Q1 := by
  rcases bndS_eq hd with ⟨v, M1, e1, h1⟩ | ⟨x, M1, e1, e2⟩
  · exact ⟨μ, F, env, M, _, hM, hE, e1, fun μ1 F1 H1 w a m q => next μ1 F1 H1 v M1 w a m (hE.aft a) q h1 (hk.weak a)⟩
  · subst e2
    exact ⟨μ, F, env, M, _, hM, hE, e1, fun μ1 F1 H1 c d a m q => hk μ1 F1 H1 σ c d a m (hE.aft a) q⟩
theorem rB_bndS {e : IE} {σ : Sl} {H : Hp} {D : Ends} {μ : Nat → Addr} {F : Hp} {env : Env} {M : Mem} {k : Bool → Mem → Option Fl} {f : Fl} {Q1 : Bool → Hp → Prop}
    (hM : MemR S μ F M H) (hE : EnvR S μ F M.length env σ) (hd : bndS (denB C e env M) env k = some f) (hk : KS S W μ F H M.length D f)
    (next : ∀ μ1 F1 H1 b M1, Aft μ F H M.length μ1 F1 H1 M1.length → MemR S μ1 F1 M1 H1 → EnvR S μ1 F1 M1.length env σ → k b M1 = some f → KS S W μ1 F1 H1 M1.length D f → Q1 b H1) :
    rB S C W e σ H Q1 := by
  rcases bndS_eq hd with ⟨v, M1, e1, h1⟩ | ⟨x, M1, e1, e2⟩
  · exact ⟨μ, F, env, M, _, hM, hE, e1, fun μ1 F1 H1 a m => next μ1 F1 H1 v M1 a m (hE.aft a) h1 (hk.weak a)⟩
  · subst e2
    exact ⟨μ, F, env, M, _, hM, hE, e1, fun μ1 F1 H1 c d a m q => hk μ1 F1 H1 σ c d a m (hE.aft a) q⟩

/-! ### blocks -/
theorem pss_nilI : PSs X [] (rSs S C W .nil) := by
  refine pssI pss_nil fun D σ H q => ?_
  obtain ⟨μ, F, env, M, f, hM, hE, hd, hk⟩ := q
  unfold denSs at hd
  have hd := Option.some.inj hd
  subst hd
  exact hk μ F H σ Aft.refl hM hE
theorem pss_consI {st : Stmt} {sts : List Stmt} {s : IS} {ss : ISs} (h1 : PS X st (rS S C W s)) (h2 : PSs X sts (rSs S C W ss)) : PSs X (st :: sts) (rSs S C W (.cons s ss)) := by
  refine pssI (pss_cons h1 h2) fun D σ H q => ?_
  obtain ⟨μ, F, env, M, f, hM, hE, hd, hk⟩ := q
  unfold denSs at hd
  cases e : denS C s env M with
  | none => rw [e] at hd; cases hd
  | some g =>
    refine ⟨μ, F, env, M, g, hM, hE, e, ?_⟩
    rw [e] at hd
    cases g with
    | nx env1 M1 => exact fun μ' F' H' σ' a m r => ⟨μ', F', env1, M1, f, m, r, hd, hk.weak a⟩
    | rt v M1 => cases hd; exact hk
    | bk env1 M1 => cases hd; exact hk
    | ct env1 M1 => cases hd; exact hk
    | ex x env1 M1 => cases hd; exact hk

/-! ### small statements -/
theorem ps_passI {pos : Pos} : PS X (.Pass pos) (rS S C W .pass) := by
  refine psI ps_pass fun D σ H q => ?_
  obtain ⟨μ, F, env, M, f, hM, hE, hd, hk⟩ := q
  unfold denS at hd
  cases hd
  exact hk μ F H σ Aft.refl hM hE
theorem ps_brkI {pos : Pos} : PS X (.Break pos) (rS S C W .brk) := by
  refine psI ps_break fun D σ H q => ?_
  obtain ⟨μ, F, env, M, f, hM, hE, hd, hk⟩ := q
  unfold denS at hd
  cases hd
  exact hk μ F H σ Aft.refl hM hE
theorem ps_contI {pos : Pos} : PS X (.Continue pos) (rS S C W .cont) := by
  refine psI ps_continue fun D σ H q => ?_
  obtain ⟨μ, F, env, M, f, hM, hE, hd, hk⟩ := q
  unfold denS at hd
  cases hd
  exact hk μ F H σ Aft.refl hM hE
theorem ps_docI {x : Str} {j : Nat} {pos pos' : Pos} : PS X (.Expr (.Constant (.str x) j pos) pos') (rS S C W .pass) := by
  refine psI ps_doc fun D σ H q => ?_
  obtain ⟨μ, F, env, M, f, hM, hE, hd, hk⟩ := q
  unfold denS at hd
  cases hd
  exact hk μ F H σ Aft.refl hM hE
theorem ps_retNI {pos : Pos} : PS X (.Return none pos) (rS S C W .retN) := by
  refine psI ps_retN fun D σ H q => ?_
  obtain ⟨μ, F, env, M, f, hM, hE, hd, hk⟩ := q
  unfold denS at hd
  cases hd
  exact hk μ F H _ Aft.refl hM (rep_non (S := S) (F := F))
theorem ps_retI {e : Expr} {ie : IE} {pos : Pos} (he : PE X e (rE S C W ie)) : PS X (.Return (some e) pos) (rS S C W (.ret ie)) := by
  refine psI (ps_ret he) fun D σ H q => ?_
  obtain ⟨μ, F, env, M, f, hM, hE, hd, hk⟩ := q
  unfold denS at hd
  refine rE_bndS hM hE hd hk fun μ1 F1 H1 v M1 w a m e1 r h1 k1 => ?_
  cases h1
  exact k1 μ1 F1 H1 w Aft.refl m r
theorem ps_dropI {e : Expr} {ie : IE} {pos : Pos} (he : PE X e (rE S C W ie)) (hs : swapsWith e none pos.line X.env = pure false) : PS X (.Expr e pos) (rS S C W (.drop ie)) := by
  refine psI (ps_expr he hs) fun D σ H q => ?_
  obtain ⟨μ, F, env, M, f, hM, hE, hd, hk⟩ := q
  unfold denS at hd
  refine rE_bndS hM hE hd hk fun μ1 F1 H1 v M1 w a m e1 r h1 k1 => ?_
  cases h1
  exact k1 μ1 F1 H1 σ Aft.refl m e1
theorem ps_setI {i : Nat} {x : Str} {e : Expr} {ie : IE} {pos' pos : Pos} (hN : X.N.Nodup) (hi : X.N[i]? = some x) (hx : Loc X.env.scope x) (he : PE X e (rE S C W ie))
    (hs : swapsWith e (some (.Name x pos')) pos.line X.env = pure false) (hf : X.fn x = true ∨ X.env.scope.names.lookup x = some .local) : PS X (.Assign [.Name x pos'] e pos) (rS S C W (.set (.nm i) ie)) := by
  refine psI (ps_set hN hi hx he hs hf) fun D σ H q => ?_
  obtain ⟨μ, F, env, M, f, hM, hE, hd, hk⟩ := q
  unfold denS at hd
  refine rE_bndS hM hE hd hk fun μ1 F1 H1 v M1 w a m e1 r h1 k1 => ?_
  cases h1
  exact k1 μ1 F1 H1 _ Aft.refl m (e1.set i r)
theorem ps_ifI {c : Expr} {a b : List Stmt} {ic : IE} {ia ib : ISs} {pos : Pos} (hc : PT X c (rB S C W ic)) (ha : PSs X a (rSs S C W ia)) (hb : PSs X b (rSs S C W ib)) : PS X (.If c a b pos) (rS S C W (.ife ic ia ib)) := by
  refine psI (ps_if hc ha hb) fun D σ H q => ?_
  obtain ⟨μ, F, env, M, f, hM, hE, hd, hk⟩ := q
  unfold denS at hd
  refine rB_bndS hM hE hd hk fun μ1 F1 H1 t M1 a m e1 h1 k1 => ?_
  cases t with
  | true => exact ⟨μ1, F1, env, M1, f, m, e1, h1, k1⟩
  | false => exact ⟨μ1, F1, env, M1, f, m, e1, h1, k1⟩

/-! ### targets -/
mutual
def Tg.slots : Tg → List Nat
  | .nm i => [i]
  | .tp ts => slotsL ts
def slotsL : List Tg → List Nat
  | [] => []
  | t :: ts => t.slots ++ slotsL ts
end
/-- changed at these slots only -/
def OnlyAt (σ σ1 : Sl) (sl : List Nat) : Prop := σ1.length = σ.length ∧ ∀ i : Nat, i ∉ sl → σ1[i]? = σ[i]?
def rG (S : Sta) (tg : Tg) : TG := fun v σ H Q => ∃ μ F k env x env1, EnvR S μ F k env σ ∧ Ex F H ∧ RepD S F x v ∧ tg.bind x env = some env1 ∧ ∀ σ1, EnvR S μ F k env1 σ1 → OnlyAt σ σ1 tg.slots → Q σ1 H
def rGs (S : Sta) (ts : List Tg) : TGs := fun vs σ H Q => ∃ μ F k env xs env1, EnvR S μ F k env σ ∧ Ex F H ∧ RepL S F xs vs ∧ PyI.bindL ts xs env = some env1 ∧ ∀ σ1, EnvR S μ F k env1 σ1 → OnlyAt σ σ1 (slotsL ts) → Q σ1 H
theorem pgI {tg : Expr} {t t' : TG} (h : PG X tg t) (i : ∀ v σ H Q, t' v σ H Q → t v σ H Q) : PG X tg t' := ⟨fun pins s σ H v u Q I r q => h.run pins s σ H v u Q I r (i v σ H Q q)⟩
theorem pgsI {tg : List Expr} {t t' : TGs} (h : PGs X tg t) (i : ∀ v σ H Q, t' v σ H Q → t v σ H Q) : PGs X tg t' := ⟨fun pins s σ H v u Q I r q => h.run pins s σ H v u Q I r (i v σ H Q q)⟩
theorem pg_nmI {i : Nat} {x : Str} {pos : Pos} (hN : X.N.Nodup) (hi : X.N[i]? = some x) (hx : Loc X.env.scope x) (hf : X.fn x = true ∨ X.env.scope.names.lookup x = some .local) : PG X (.Name x pos) (rG S (.nm i)) := by
  refine pgI (pg_name hN hi hx hf) fun v σ H Q q => ?_
  obtain ⟨μ, F, k, env, x, env1, hE, ex, r, hb, hq⟩ := q
  unfold Tg.bind at hb
  cases hb
  refine hq _ (hE.set i (v := .d x) r) ⟨by rw [List.length_set], fun j hj => ?_⟩
  simp only [Tg.slots, List.mem_singleton] at hj
  rw [List.getElem?_set_ne (fun e => hj e.symm)]
theorem pgs_nilI : PGs X [] (rGs S []) := by
  refine pgsI pgs_nil fun v σ H Q q => ?_
  obtain ⟨μ, F, k, env, xs, env1, hE, ex, r, hb, hq⟩ := q
  cases xs with
  | nil =>
    simp only [PyI.bindL, Option.some.injEq] at hb
    subst hb
    exact ⟨repL_nil r, hq _ hE ⟨rfl, fun _ _ => rfl⟩⟩
  | cons y ys => simp only [PyI.bindL] at hb; cases hb
theorem assign_no {e : Expr} {es : List Expr} {env : PySem.Env} (h : ∀ y p, e ≠ .Starred y p) : assignEach (e :: es) env = (false, assign e env) :: assignEach es env := by
  cases e <;> first | rfl | exact absurd rfl (h _ _)
theorem pgs_consI {e : Expr} {es : List Expr} {t : Tg} {ts : List Tg} (h1 : PG X e (rG S t)) (h2 : PGs X es (rGs S ts)) (hs : ∀ y p, e ≠ .Starred y p) : PGs X (e :: es) (rGs S (t :: ts)) := by
  refine pgsI (pgs_cons h1 h2 (by rw [assign_no hs] <;> rfl)) fun v σ H Q q => ?_
  obtain ⟨μ, F, k, env, xs, env1, hE, ex, r, hb, hq⟩ := q
  cases xs with
  | nil => simp only [PyI.bindL] at hb; cases hb
  | cons y ys =>
    obtain ⟨v, ws, rfl, r1, r2⟩ := repL_cons r
    simp only [PyI.bindL] at hb
    cases e1 : t.bind y env with
    | none => rw [e1] at hb; cases hb
    | some env2 =>
      simp only [e1] at hb
      refine ⟨v, ws, rfl, μ, F, k, env, y, env2, hE, ex, r1, e1, fun σ1 h3 o1 => ⟨μ, F, k, env2, ys, env1, h3, ex, r2, hb, fun σ2 h4 o2 => hq σ2 h4 ⟨o2.1.trans o1.1, fun i hi => ?_⟩⟩⟩
      simp only [slotsL, List.mem_append, not_or] at hi
      exact (o2.2 i hi.2).trans (o1.2 i hi.1)
theorem pg_or {tg : Expr} {t t' : TG} (h : PG X tg t) (h' : PG X tg t') : PG X tg (fun v σ H Q => t v σ H Q ∨ t' v σ H Q) :=
  ⟨fun pins s σ H v u Q I r q => q.elim (fun q => h.run pins s σ H v u Q I r q) (fun q => h'.run pins s σ H v u Q I r q)⟩
theorem bindL_len : ∀ {ts : List Tg} {xs : List D} {env env1 : Env}, PyI.bindL ts xs env = some env1 → xs.length = ts.length
  | [], [], _, _, _ => rfl
  | [], _ :: _, _, _, h => by simp only [PyI.bindL] at h; cases h
  | _ :: _, [], _, _, h => by simp only [PyI.bindL] at h; cases h
  | t :: ts, x :: xs, env, env1, h => by
    simp only [PyI.bindL] at h
    cases e1 : t.bind x env with
    | none => rw [e1] at h; cases h
    | some env2 =>
      simp only [e1] at h
      simp only [List.length_cons, bindL_len h]
/-- what is unpacked into several targets: a tuple, a list -/
def gMany (K : PySem.W.Frag) (n : Nat) (t : TGs) : TG := fun v σ H Q => gTup K n t v σ H Q ∨ gLst K n t v σ H Q
theorem pg_manyI {es : List Expr} {k : Nat} {pos : Pos} {t : TGs} {n : Nat} (hc : X.calm = true) (h : PGs X es t) (hn : (assignEach es X.env).length = n) (hst : (assignEach es X.env).findIdx? (·.1) = none) :
    PG X (.Tuple es k pos) (gMany X.K n t) := pg_or (pg_tup hc h hn hst) (pg_lst hc h hn hst)
theorem gMany_of {μ : Nat → Addr} {F H : Hp} {k : Nat} {env env1 : Env} {σ : Sl} {x : D} {v : V} {ts : List Tg} {Q : Sl → Hp → Prop} (hE : EnvR S μ F k env σ) (ex : Ex F H) (r : RepA S F H x v) (hb : (Tg.tp ts).bind x env = some env1)
    (hq : ∀ σ1, EnvR S μ F k env1 σ1 → OnlyAt σ σ1 (slotsL ts) → Q σ1 H) : gMany S.K ts.length (rGs S ts) v σ H Q := by
  cases x with
  | tup xs =>
    simp only [Tg.bind] at hb
    obtain ⟨a, vs, rfl, h1, h2⟩ := repD_tup r
    exact .inl ⟨a, vs, rfl, Evl.ex_t ex h1, by rw [← repL_len h2, bindL_len hb], μ, F, k, env, xs, env1, hE, ex, h2, hb, hq⟩
  | lst xs =>
    simp only [Tg.bind] at hb
    obtain ⟨a, vs, rfl, h1, h2⟩ := r
    exact .inr ⟨a, vs, rfl, Evl.sq_of h1, by rw [← repL_len h2, bindL_len hb], μ, F, k, env, xs, env1, hE, ex, h2, hb, hq⟩
  | _ => simp only [Tg.bind] at hb; cases hb
theorem pg_tpI {es : List Expr} {k : Nat} {pos : Pos} {ts : List Tg} (hK : X.K = S.K) (hc : X.calm = true) (h : PGs X es (rGs S ts)) (hn : (assignEach es X.env).length = ts.length) (hst : (assignEach es X.env).findIdx? (·.1) = none) :
    PG X (.Tuple es k pos) (rG S (.tp ts)) := by
  refine pgI (pg_manyI hc h hn hst) fun v σ H Q q => ?_
  obtain ⟨μ, F, k, env, x, env1, hE, ex, r, hb, hq⟩ := q
  rw [hK]
  exact gMany_of hE ex (repA_of ex r) hb fun σ1 h1 o1 => hq σ1 h1 (by simpa only [Tg.slots] using o1)
/-- a, b = e -/
theorem ps_tpI {es : List Expr} {k : Nat} {tpos pos : Pos} {ts : List Tg} {e : Expr} {ie : IE} (hK : X.K = S.K) (hc : X.calm = true) (h : PGs X es (rGs S ts)) (hn : (assignEach es X.env).length = ts.length) (hst : (assignEach es X.env).findIdx? (·.1) = none)
    (he : PE X e (rE S C W ie)) (hs : swapsWithSole [.Tuple es k tpos] e pos.line X.env = pure false) (hw : swappedStores [.Tuple es k tpos] e X.env = pure none) : PS X (.Assign [.Tuple es k tpos] e pos) (rS S C W (.set (.tp ts) ie)) := by
  refine psI (ps_asg he (pg_manyI hc h hn hst) hs hw rfl) fun D σ H q => ?_
  obtain ⟨μ, F, env, M, f, hM, hE, hd, hk⟩ := q
  unfold denS at hd
  refine rE_bndS hM hE hd hk fun μ1 F1 H1 v M1 w a m e1 r h1 k1 => ?_
  cases q1 : v.see M1 with
  | none => rw [q1] at h1; cases h1
  | some x =>
    simp only [q1] at h1
    cases q2 : (Tg.tp ts).bind x env with
    | none => rw [q2] at h1; cases h1
    | some env1 =>
      simp only [q2] at h1
      cases h1
      rw [hK]
      exact gMany_of e1 m.sub (see_ok m r q1) q2 fun σ1 h3 _ => k1 μ1 F1 H1 σ1 Aft.refl m h3

/-! ### parallel stores -/
theorem parSet_two {i j : Nat} {vs : List Val} {env env1 : Env} (h : parSet [i, j] vs env = some env1) : ∃ v w, vs = [v, w] ∧ env1 = (env.set i (some v)).set j (some w) := by
  match vs with
  | [] => cases h
  | [v] => cases h
  | [v, w] => cases h; exact ⟨v, w, rfl, rfl⟩
  | v :: w :: u :: r => cases h
theorem parSet_three {i j l : Nat} {vs : List Val} {env env1 : Env} (h : parSet [i, j, l] vs env = some env1) : ∃ v w u, vs = [v, w, u] ∧ env1 = ((env.set i (some v)).set j (some w)).set l (some u) := by
  match vs with
  | [] => cases h
  | [v] => cases h
  | [v, w] => cases h
  | [v, w, u] => cases h; exact ⟨v, w, u, rfl, rfl⟩
  | v :: w :: u :: t :: r => cases h
theorem repVs_two {F : Hp} {μ : Nat → Addr} {k : Nat} {v w : Val} {ws : List V} (h : RepVs S F μ k [v, w] ws) : ∃ a b, ws = [a, b] ∧ RepV S F μ k v a ∧ RepV S F μ k w b := by
  obtain ⟨a, as, rfl, h1, h2⟩ := h.cons
  obtain ⟨b, bs, rfl, h3, h4⟩ := h2.cons
  rw [h4.nil]
  exact ⟨a, b, rfl, h1, h3⟩
theorem repVs_three {F : Hp} {μ : Nat → Addr} {k : Nat} {v w u : Val} {ws : List V} (h : RepVs S F μ k [v, w, u] ws) : ∃ a b c, ws = [a, b, c] ∧ RepV S F μ k v a ∧ RepV S F μ k w b ∧ RepV S F μ k u c := by
  obtain ⟨a, as, rfl, h1, h2⟩ := h.cons
  obtain ⟨b, c, rfl, h3, h4⟩ := repVs_two h2
  exact ⟨a, b, c, rfl, h1, h3, h4⟩
theorem ps_par2I {i j : Nat} {x y : Str} {a b : Expr} {ies : IEs} {px py pt pos pt2 : Pos} {kt k2 : Nat} (hc : X.calm = true) (hN : X.N.Nodup) (hi : X.N[i]? = some x) (hj : X.N[j]? = some y) (hij : i ≠ j)
    (hx : X.env.scope.names.lookup x = some .local) (hy : X.env.scope.names.lookup y = some .local) (ha : PA X [a, b] (rA S C W ies))
    (hw : swappedStores [.Tuple [.Name x px, .Name y py] kt pt] (.Tuple [a, b] k2 pt2) X.env = pure (some [x, y])) :
    PS X (.Assign [.Tuple [.Name x px, .Name y py] kt pt] (.Tuple [a, b] k2 pt2) pos) (rS S C W (.par [i, j] ies)) := by
  refine psI (ps_par hc hN hi hj hij hx hy ha hw rfl) fun D σ H q => ?_
  obtain ⟨μ, F, env, M, f, hM, hE, hd, hk⟩ := q
  unfold denS at hd
  refine rA_bndS hM hE hd hk fun μ1 F1 H1 vs M1 ws a m e1 r h1 k1 => ?_
  cases q1 : parSet [i, j] vs env with
  | none => rw [q1] at h1; cases h1
  | some env1 =>
    simp only [q1] at h1
    cases h1
    obtain ⟨v, w, rfl, rfl⟩ := parSet_two q1
    obtain ⟨p, q, rfl, r1, r2⟩ := repVs_two r
    exact ⟨p, q, rfl, k1 μ1 F1 H1 _ Aft.refl m ((e1.set i r1).set j r2)⟩
theorem ps_par3I {i j l : Nat} {x y z : Str} {a b c : Expr} {ies : IEs} {px py pz pt pos pt2 : Pos} {kt k2 : Nat} (hc : X.calm = true) (hN : X.N.Nodup) (hi : X.N[i]? = some x) (hj : X.N[j]? = some y) (hl : X.N[l]? = some z)
    (hij : i ≠ j) (hil : i ≠ l) (hjl : j ≠ l) (hx : X.env.scope.names.lookup x = some .local) (hy : X.env.scope.names.lookup y = some .local) (hz : X.env.scope.names.lookup z = some .local) (ha : PA X [a, b, c] (rA S C W ies))
    (hw : swappedStores [.Tuple [.Name x px, .Name y py, .Name z pz] kt pt] (.Tuple [a, b, c] k2 pt2) X.env = pure (some [x, y, z])) :
    PS X (.Assign [.Tuple [.Name x px, .Name y py, .Name z pz] kt pt] (.Tuple [a, b, c] k2 pt2) pos) (rS S C W (.par [i, j, l] ies)) := by
  refine psI (ps_par3 hc hN hi hj hl hij hil hjl hx hy hz ha hw rfl) fun D σ H q => ?_
  obtain ⟨μ, F, env, M, f, hM, hE, hd, hk⟩ := q
  unfold denS at hd
  refine rA_bndS hM hE hd hk fun μ1 F1 H1 vs M1 ws a m e1 r h1 k1 => ?_
  cases q1 : parSet [i, j, l] vs env with
  | none => rw [q1] at h1; cases h1
  | some env1 =>
    simp only [q1] at h1
    cases h1
    obtain ⟨v, w, u, rfl, rfl⟩ := parSet_three q1
    obtain ⟨p, q, t, rfl, r1, r2, r3⟩ := repVs_three r
    exact ⟨p, q, t, rfl, k1 μ1 F1 H1 _ Aft.refl m (((e1.set i r1).set j r2).set l r3)⟩

/-! ### o[i] = v -/
theorem ps_setixI {o i e : Expr} {io ii ie : IE} {tpos pos : Pos} (ho : PE X o (rE S C W io)) (hi : PE X i (rE S C W ii)) (he : PE X e (rE S C W ie))
    (ha : ∀ v, assign (.Subscript o i tpos) X.env v = (do
      let ov ← holding [v] (eval o X.env)
      let iv ← holding [v, ov] (eval i X.env)
      standAt tpos
      holding [v, ov, iv] (setItem ov iv v)
      release [v, ov, iv] []))
    (hs : swapsWithSole [.Subscript o i tpos] e pos.line X.env = pure false) (hw : swappedStores [.Subscript o i tpos] e X.env = pure none) : PS X (.Assign [.Subscript o i tpos] e pos) (rS S C W (.setix io ii ie)) := by
  refine psI (ps_asg he (pg_sub ho hi set_list ha) hs hw rfl) fun D σ H q => ?_
  obtain ⟨μ, F, env, M, f, hM, hE, hd, hk⟩ := q
  unfold denS at hd
  refine rE_bndS hM hE hd hk fun μ1 F1 H1 v M1 w a1 m1 e1 r1 h1 k1 => ?_
  refine rE_bndS m1 e1 h1 k1 fun μ2 F2 H2 ov M2 w2 a2 m2 e2 r2 h2 k2 => ?_
  refine rE_bndS m2 e2 h2 k2 fun μ3 F3 H3 iv M3 w3 a3 m3 e3 r3 h3 k3 => ?_
  have rv := (r1.aft a2).aft a3
  have ro := r2.aft a3
  cases q1 : setAt ov iv v M3 with
  | none => rw [q1] at h3; cases h3
  | some M4 =>
    simp only [q1] at h3
    cases h3
    cases ov with
    | d x => cases q1
    | rf n =>
      cases iv with
      | rf _ => cases q1
      | d y =>
        cases y with
        | int k =>
          simp only [setAt] at q1
          cases q2 : v.hold M3 with
          | none => rw [q2] at q1; cases q1
          | some p =>
            obtain ⟨x, M5⟩ := p
            simp only [q2] at q1
            obtain ⟨F5, m5, a5, rx⟩ := hold_ok m3 rv q2
            cases q3 : M5[n]? with
            | none => rw [q3] at q1; cases q1
            | some c =>
              rw [q3] at q1
              cases c with
              | lst xs =>
                have q1 : (ixN xs.length k).map (fun j => M5.set n (.lst (xs.set j x))) = some M4 := q1
                cases q4 : ixN xs.length k with
                | none => rw [q4] at q1; cases q1
                | some j =>
                  rw [q4] at q1
                  cases q1
                  obtain ⟨nf, vs, hv, rl⟩ := m5.cell n _ q3
                  have hn : n < M5.length := (List.getElem?_eq_some_iff.mp q3).1
                  have eo : w2 = V.ref (μ3 n) := ro.2
                  obtain ⟨m6, a6⟩ := m5.cellSet (o := .lst (vs.set j w)) (c := .lst (xs.set j x)) hn nf ⟨nf, _, upd_same, repL_set j rl rx⟩
                  refine ⟨μ3 n, vs, k, j, eo, repD_int (S := S) (F := F3) r3, hv, by rw [← repL_len rl]; exact q4, ?_⟩
                  exact k3 μ3 F5 _ σ (a5.trans a6) m6 (e3.aft (a5.trans a6))
              | _ => cases q1
        | _ => cases q1

/-! ### while -/
theorem ps_whlI {c : Expr} {b : List Stmt} {ic : IE} {ib : ISs} {pos : Pos} (hp : PassesOwn (model X.prog X.w) X.A X.env X.xe) (hc : PT X c (rB S C W ic)) (hb : PSs X b (rSs S C W ib)) : PS X (.While c b [] pos) (rS S C W (.whl ic ib)) := by
  refine psI (ps_while hp hc hb) fun D σ H q => ?_
  obtain ⟨μ, F, env, M, f, hM, hE, hd, hk⟩ := q
  unfold denS at hd
  obtain ⟨n, hd⟩ := whl_to hd
  refine ⟨fun m σ H => ∃ μ F env M f, MemR S μ F M H ∧ EnvR S μ F M.length env σ ∧ whlF (denB C ic) (denSs C ib) m env M = some f ∧ KS S W μ F H M.length D f, ⟨n, μ, F, env, M, f, hM, hE, hd, hk⟩, ?_⟩
  rintro m σ H ⟨μ, F, env, M, f, hM, hE, hd, hk⟩
  cases m with
  | zero => cases hd
  | succ m =>
    unfold whlF at hd
    refine rB_bndS hM hE hd hk fun μ1 F1 H1 t M1 a1 m1 e1 h1 k1 => ?_
    cases t with
    | false =>
      rw [if_neg (by decide)] at h1 ⊢
      cases h1
      exact k1 μ1 F1 H1 σ Aft.refl m1 e1
    | true =>
      rw [if_pos rfl] at h1 ⊢
      refine ⟨fun σ H => ∃ μ F env M f, MemR S μ F M H ∧ EnvR S μ F M.length env σ ∧ whlF (denB C ic) (denSs C ib) m env M = some f ∧ KS S W μ F H M.length D f, fun σ' H' h => ⟨m, Nat.lt_succ_self m, h⟩, ?_⟩
      cases q1 : denSs C ib env M1 with
      | none => rw [q1] at h1; cases h1
      | some g =>
        rw [q1] at h1
        refine ⟨μ1, F1, env, M1, g, m1, e1, q1, ?_⟩
        cases g with
        | nx env2 M2 => exact fun μ' F' H' σ' a mm ee => ⟨μ', F', env2, M2, f, mm, ee, h1, k1.weak a⟩
        | ct env2 M2 => exact fun μ' F' H' σ' a mm ee => ⟨μ', F', env2, M2, f, mm, ee, h1, k1.weak a⟩
        | bk env2 M2 =>
          cases h1
          exact fun μ' F' H' σ' a mm ee => k1 μ' F' H' σ' a mm ee
        | rt v M2 => cases h1; exact k1
        | ex x env2 M2 => cases h1; exact k1
end
end PyI

/-! PyI S: attributes stored, append, except clauses with any suite. -/
namespace PyI
open PySem PySem.Spec PyProof.Rows L2
open Evl (Ex)
section
variable {S : Sta} {C : Orc} {W : WX} {X : Cx}
theorem putF_len {fs : List (Nat × D)} {f : Nat} {x : D} : (PyI.putF fs f x).length ≤ fs.length + 1 := by
  induction fs with
  | nil => simp [PyI.putF]
  | cons p fs ih =>
    obtain ⟨g, y⟩ := p
    unfold PyI.putF
    split
    · simp
    · simp only [List.length_cons]; omega
theorem putF_ok {fs : List (Nat × D)} {f : Nat} {x : D} (hf : S.fok f = true) (h : ∀ p ∈ fs, S.fok p.1 = true) : ∀ p ∈ PyI.putF fs f x, S.fok p.1 = true := by
  induction fs with
  | nil => intro p hp; simp only [PyI.putF, List.mem_singleton] at hp; subst hp; exact hf
  | cons q fs ih =>
    obtain ⟨g, y⟩ := q
    intro p hp
    unfold PyI.putF at hp
    split at hp
    · rcases List.mem_cons.mp hp with rfl | hp
      · exact hf
      · exact h p (List.mem_cons_of_mem _ hp)
    · rcases List.mem_cons.mp hp with rfl | hp
      · exact h _ List.mem_cons_self
      · exact ih (fun q hq => h q (List.mem_cons_of_mem _ hq)) p hp
theorem putF_rep (B : BaseF S) {F : Hp} {f : Nat} {x : D} {v : V} (hf : S.fok f = true) (rx : RepD S F x v) : ∀ {fs : List (Nat × D)} {vs : List V}, (∀ p ∈ fs, S.fok p.1 = true) → vs.length = fs.length → RepL S F (fs.map (·.2)) vs →
    ∃ ws, L2.putF (S.fnm f) v ((fs.map fun p => S.fnm p.1).zip vs) = ((PyI.putF fs f x).map fun p => S.fnm p.1).zip ws ∧ ws.length = (PyI.putF fs f x).length ∧ RepL S F ((PyI.putF fs f x).map (·.2)) ws
  | [], vs, _, _, r => by
    rw [repL_nil r]
    exact ⟨[v], rfl, rfl, repL_one rx⟩
  | (g, y) :: fs, vs, hk, hl, r => by
    obtain ⟨u, us, rfl, r1, r2⟩ := repL_cons r
    have hg : S.fok g = true := hk (g, y) List.mem_cons_self
    have hl : us.length = fs.length := by simpa using hl
    by_cases h : g = f
    · subst h
      refine ⟨v :: us, ?_, ?_, ?_⟩
      · simp [PyI.putF, L2.putF]
      · simp [PyI.putF, hl]
      · simp only [PyI.putF, if_pos rfl, List.map_cons]
        exact repL_mk rx r2
    · obtain ⟨ws, e, l, rr⟩ := putF_rep B hf rx (fun p hp => hk p (List.mem_cons_of_mem _ hp)) hl r2
      have ne : S.fnm g ≠ S.fnm f := fun z => h (B.inj g f hg hf z)
      refine ⟨u :: ws, ?_, ?_, ?_⟩
      · simp only [PyI.putF, if_neg h, List.map_cons, List.zip_cons_cons]
        rw [← e]
        simp [L2.putF, ne]
      · simp [PyI.putF, h, l]
      · simp only [PyI.putF, if_neg h, List.map_cons]
        exact repL_mk r1 rr
/-- the attribute of a cell is stored -/
theorem MemR.field (B : BaseF S) {μ : Nat → Addr} {F H : Hp} {M : Mem} {n c f : Nat} {fs : List (Nat × D)} {x : D} {v : V} (h : MemR S μ F M H) (e : M[n]? = some (.ins c fs)) (hf : S.fok f = true) (rx : RepD S F x v) :
    S.ih c = true ∧ ∃ dx gs, H (μ n) = some (.ins (S.ca c) dx gs) ∧ gs.length = fs.length ∧ MemR S μ F (M.set n (.ins c (PyI.putF fs f x))) (upd H (μ n) (.ins (S.ca c) dx (L2.putF (S.fnm f) v gs))) ∧
      Aft μ F H M.length μ F (upd H (μ n) (.ins (S.ca c) dx (L2.putF (S.fnm f) v gs))) (M.set n (.ins c (PyI.putF fs f x))).length := by
  obtain ⟨k0, kk, kf, dx, vs, kh, kl, kr⟩ := h.cell n _ e
  have hn : n < M.length := (List.getElem?_eq_some_iff.mp e).1
  obtain ⟨ws, e2, l2, r2⟩ := putF_rep B hf rx kk kl kr
  obtain ⟨m, a⟩ := h.cellSet (o := .ins (S.ca c) dx (L2.putF (S.fnm f) v ((fs.map fun p => S.fnm p.1).zip vs))) (c := .ins c (PyI.putF fs f x)) hn kf
    ⟨k0, putF_ok hf kk, kf, dx, ws, by rw [upd_same, e2], l2, r2⟩
  exact ⟨k0, dx, _, kh, by simp [kl], m, a⟩
theorem rS_setf (B : BaseF S) {x : Str} {f : Nat} {cs : List (Nat × Nat)} (ff : FldF S x f cs) (all : ∀ c, S.ih c = true → NoAttr S.K (S.ca c) x) {o e : IE} {D : Ends} {σ : Sl} {H : Hp} (q : rS S C W (.setf f o e) D σ H) : sFld S.K (rE S C W o) (rE S C W e) x D σ H := by
  obtain ⟨μ, F, env, M, g, hM, hE, hd, hk⟩ := q
  unfold denS at hd
  refine rE_bndS hM hE hd hk fun μ1 F1 H1 v M1 w a1 m1 e1 r1 h1 k1 => ?_
  refine rE_bndS m1 e1 h1 k1 fun μ2 F2 H2 ov M2 w2 a2 m2 e2 r2 h2 k2 => ?_
  cases q1 : setF f ov v M2 with
  | none => rw [q1] at h2; cases h2
  | some M3 =>
    simp only [q1] at h2
    cases h2
    cases ov with
    | d y => cases q1
    | rf n =>
      simp only [setF] at q1
      cases q2 : v.hold M2 with
      | none => rw [q2] at q1; cases q1
      | some p =>
        obtain ⟨y, M4⟩ := p
        simp only [q2] at q1
        obtain ⟨F4, m4, a4, ry⟩ := hold_ok m2 (r1.aft a2) q2
        cases q3 : M4[n]? with
        | none => rw [q3] at q1; cases q1
        | some cc =>
          rw [q3] at q1
          cases cc with
          | ins c fs =>
            simp only at q1
            split at q1
            · rename_i hz
              cases q1
              obtain ⟨k0, dx, gs, kh, kl, m5, a5⟩ := m4.field B q3 ff.ok ry
              have eo : w2 = V.ref (μ2 n) := r2.2
              rw [ff.nm] at m5 a5
              refine ⟨μ2 n, S.ca c, dx, gs, eo, kh, (B.ins c k0).cl, all c k0, by omega, ?_⟩
              exact k2 μ2 F4 _ σ (a4.trans a5) m5 (e2.aft (a4.trans a5))
            · cases q1
          | _ => cases q1

/-! ### self.a, self.b = e -/
def gFld (K : PySem.W.Frag) (ta : TE) (f : Str) : TG := fun v σ H Q => ta σ H fun x H1 => ∃ a A dx fs, x = .ref a ∧ H1 a = some (.ins A dx fs) ∧ Cls K A ∧ NoAttr K A f ∧ fs.length < 1000 ∧ Q σ (upd H1 a (.ins A dx (L2.putF f v fs)))
theorem pg_attr {o : Expr} {ta : TE} {f : Str} {pos : Pos} (ho : PE X o ta) : PG X (.Attribute o f pos) (gFld X.K ta f) := by
  refine ⟨fun pins s σ H v u Q I r h => ?_⟩
  show wpAny _ _ (do
    let ov ← holding [u] (eval o X.env)
    standAt pos.atName
    holding [u, ov] (setAttr ov f u)
    release [u, ov] []) _ _ _
  refine wpAny_bind (wpAny_holding (thn (ho.run pins s σ H _ I h) fun ov s1 z => ?_))
  obtain ⟨x, H1, I1, rx, a, A, dx, fs, rfl, ea, c, n, l, q⟩ := z
  cases (show ov = Value.ref a from rx)
  refine wpAny_bind (wpAny_standAt (wpAny_bind (wpAny_holding (setattr_ok I1 ea c n l r fun s2 I2 => ?_))))
  exact wpAny_release ⟨σ, _, I2, q⟩
/-- the attributes of the object in slot i -/
def gFlds (K : PySem.W.Frag) (i : Nat) : List Str → TGs
  | [] => gNil
  | f :: fs => gCons (gFld K (tVar i) f) (gFlds K i fs)
theorem fields_go (B : BaseF S) {i : Nat} {σ : Sl} {n c : Nat} {Q1 : Sl → Hp → Prop} : ∀ {fl : List Nat} {xs : List D} {fs gs : List (Nat × D)} {μ : Nat → Addr} {F H : Hp} {M : Mem} {vs : List V},
    (∀ f ∈ fl, S.fok f = true ∧ ∀ c, S.ih c = true → NoAttr S.K (S.ca c) (S.fnm f)) → MemR S μ F M H → σ[i]? = some (some (V.ref (μ n))) → M[n]? = some (.ins c fs) → putFs fs fl xs = some gs → fs.length + fl.length < 900 → RepL S F xs vs →
    (∀ H', MemR S μ F (M.set n (.ins c gs)) H' → Aft μ F H M.length μ F H' (M.set n (.ins c gs)).length → Q1 σ H') → gFlds S.K i (fl.map S.fnm) vs σ H Q1
  | [], [], fs, gs, μ, F, H, M, vs, _, hM, hs, hn, hp, hz, r, hq => by
    cases hp
    rw [repL_nil r]
    refine ⟨rfl, hq H ?_ ?_⟩
    · have hl := (List.getElem?_eq_some_iff.mp hn).1
      have e : M.set n (.ins c fs) = M := by
        rw [← (List.getElem?_eq_some_iff.mp hn).2]
        exact List.set_getElem_self hl
      rw [e]; exact hM
    · rw [List.length_set]; exact Aft.refl
  | [], _ :: _, fs, gs, μ, F, H, M, vs, _, _, _, _, hp, _, _, _ => by cases hp
  | _ :: _, [], fs, gs, μ, F, H, M, vs, _, _, _, _, hp, _, _, _ => by cases hp
  | f :: fl, x :: xs, fs, gs, μ, F, H, M, vs, ha, hM, hs, hn, hp, hz, r, hq => by
    obtain ⟨v, ws, rfl, r1, r2⟩ := repL_cons r
    have hp : putFs (PyI.putF fs f x) fl xs = some gs := hp
    obtain ⟨hf, hna⟩ := ha f List.mem_cons_self
    obtain ⟨k0, dx, gs2, kh, kl, m5, a5⟩ := hM.field B hn hf r1
    have hl := (List.getElem?_eq_some_iff.mp hn).1
    have zz : fs.length + (fl.length + 1) < 900 := hz
    refine ⟨v, ws, rfl, V.ref (μ n), hs, μ n, S.ca c, dx, gs2, rfl, kh, (B.ins c k0).cl, hna c k0, by omega, ?_⟩
    refine fields_go B (fun g hg => ha g (List.mem_cons_of_mem _ hg)) m5 hs (by rw [List.getElem?_set_self hl]) hp (by have := putF_len (fs := fs) (f := f) (x := x); omega) r2 fun H' m6 a6 => ?_
    rw [List.set_set] at m6 a6
    exact hq H' m6 (a5.trans a6)
theorem rS_setfs (B : BaseF S) {i : Nat} {fl : List Nat} (ha : ∀ f ∈ fl, S.fok f = true ∧ ∀ c, S.ih c = true → NoAttr S.K (S.ca c) (S.fnm f)) {e : IE} {D : Ends} {σ : Sl} {H : Hp} (q : rS S C W (.setfs i fl e) D σ H) :
    tAsg (rE S C W e) (gTup S.K fl.length (gFlds S.K i (fl.map S.fnm))) D σ H := by
  obtain ⟨μ, F, env, M, g, hM, hE, hd, hk⟩ := q
  unfold denS at hd
  refine rE_bndS hM hE hd hk fun μ1 F1 H1 v M1 w a1 m1 e1 r1 h1 k1 => ?_
  cases q0 : env[i]? with
  | none => rw [q0] at h1; cases h1
  | some o =>
    cases o with
    | none => rw [q0] at h1; cases h1
    | some ov =>
      simp only [q0] at h1
      cases q1 : setFs fl ov v M1 with
      | none => rw [q1] at h1; cases h1
      | some M2 =>
        simp only [q1] at h1
        cases h1
        obtain ⟨ow, hs, ro⟩ := e1.at_ i ov q0
        cases ov with
        | d y => cases q1
        | rf n =>
          obtain ⟨hn, rfl⟩ := (show n < M1.length ∧ ow = V.ref (μ1 n) from ro)
          cases v with
          | rf n => cases q1
          | d y =>
            cases y with
            | tup xs =>
              simp only [setFs] at q1
              cases q3 : M1[n]? with
              | none => rw [q3] at q1; cases q1
              | some cc =>
                rw [q3] at q1
                cases cc with
                | ins c fs =>
                  simp only at q1
                  split at q1
                  · rename_i hz
                    cases q4 : putFs fs fl xs with
                    | none => rw [q4] at q1; cases q1
                    | some gs =>
                      rw [q4] at q1
                      cases q1
                      obtain ⟨a, vs, rfl, p1, p2⟩ := repD_tup (S := S) (F := F1) r1
                      have len : ∀ {fl : List Nat} {xs : List PyI.D} {fs gs : List (Nat × PyI.D)}, putFs fs fl xs = some gs → xs.length = fl.length := by
                        intro fl
                        induction fl with
                        | nil => intro xs fs gs h; cases xs with
                          | nil => rfl
                          | cons x xs => cases h
                        | cons f fl ih => intro xs fs gs h; cases xs with
                          | nil => cases h
                          | cons x xs =>
                            have h : putFs (PyI.putF fs f x) fl xs = some gs := h
                            simp only [List.length_cons, ih h]
                      refine ⟨a, vs, rfl, Evl.ex_t m1.sub p1, by rw [← repL_len p2, len q4], ?_⟩
                      exact fields_go B ha m1 hs q3 q4 hz p2 fun H' m5 a5 => k1 μ1 F1 H' σ a5 m5 (e1.aft a5)
                  · cases q1
                | _ => cases q1
            | _ => cases q1

/-! ### xs.append(e) -/
theorem rS_app {o e : IE} {D : Ends} {σ : Sl} {H : Hp} (q : rS S C W (.app o e) D σ H) : tBM S.K "list" rAppend (rE S C W o) (tCons (rE S C W e) tNil) σ H fun _ H' => D.nx σ H' := by
  obtain ⟨μ, F, env, M, g, hM, hE, hd, hk⟩ := q
  unfold denS at hd
  refine rE_bndS hM hE hd hk fun μ1 F1 H1 ov M1 w a1 m1 e1 r1 h1 k1 => ?_
  split at h1
  · rename_i hl
    cases ov with
    | d y => cases hl
    | rf n =>
      obtain ⟨hn, rfl⟩ := (show n < M1.length ∧ w = V.ref (μ1 n) from r1)
      refine ⟨?_, rE_bndS m1 e1 h1 k1 fun μ2 F2 H2 v M2 w2 a2 m2 e2 r2 h2 k2 => ?_⟩
      · have hl : (match M1[n]? with
          | some (.lst _) => true
          | _ => false) = true := hl
        cases q : M1[n]? with
        | none => rw [q] at hl; cases hl
        | some c =>
          rw [q] at hl
          cases c with
          | lst xs =>
            obtain ⟨_, vs, hv, _⟩ := m1.cell n _ q
            exact .inl ⟨rfl, vs, Evl.sq_of hv⟩
          | _ => cases hl
      · cases q1 : appV (.rf n) v M2 with
        | none => rw [q1] at h2; cases h2
        | some M3 =>
          simp only [q1] at h2
          cases h2
          simp only [appV] at q1
          cases q2 : v.hold M2 with
          | none => rw [q2] at q1; cases q1
          | some p =>
            obtain ⟨y, M4⟩ := p
            simp only [q2] at q1
            obtain ⟨F4, m4, a4, ry⟩ := hold_ok m2 r2 q2
            cases q3 : M4[n]? with
            | none => rw [q3] at q1; cases q1
            | some cc =>
              rw [q3] at q1
              cases cc with
              | lst xs =>
                simp only at q1
                split at q1
                · rename_i hz
                  cases q1
                  obtain ⟨nf, vs, hv, rl⟩ := m4.cell n _ q3
                  have hn4 : n < M4.length := (List.getElem?_eq_some_iff.mp q3).1
                  obtain ⟨m5, a5⟩ := m4.cellSet (o := .lst (vs ++ [w2])) (c := .lst (xs ++ [y])) hn4 nf ⟨nf, _, upd_same, repL_app rl (repL_one ry)⟩
                  refine ⟨μ2 n, vs, w2, by rw [a2.mu n hn], rfl, hv, by rw [← repL_len rl]; exact hz, ?_⟩
                  exact k2 μ2 F4 _ σ (a4.trans a5) m5 (e2.aft (a4.trans a5))
                · cases q1
              | _ => cases q1
  · cases h1
end
end PyI

/-! PyI 7: what is walked, for, comprehensions. -/
namespace PyI
open PySem PySem.Spec PyProof.Rows L2
open Evl (Ex)

/-- an iterator that gives these items, whatever comes to F -/
structure Yields (S : Sta) (J : It) (xs : List D) (F0 : Hp) : Prop where
  go : ∀ i F H, Ex F0 F → Ex F H → i < xs.length → J.go i H
  stop : ∀ F H, Ex F0 F → Ex F H → J.stop xs.length H
  yld : ∀ i F H x H', Ex F0 F → Ex F H → i < xs.length → J.yld i H x H' → ∃ z F', xs[i]? = some z ∧ Grow F F' H H' ∧ RepD S F' z x
def KI (S : Sta) (W : WX) (μ : Nat → Addr) (F H : Hp) (k : Nat) (σ : Sl) (Rr : It → Hp → Prop) : R (List D) → Prop
  | .ok xs M => ∀ μ' F' H' J, Aft μ F H k μ' F' H' M.length → MemR S μ' F' M H' → Yields S J xs F' → Rr J H'
  | .ex x M => ∀ μ' F' H' cls d, Aft μ F H k μ' F' H' M.length → MemR S μ' F' M H' → RepX S F' x cls d → W cls d σ H'
def rI (S : Sta) (C : Orc) (W : WX) (it : II) : TI := fun σ H R =>
  ∃ μ F env M r, MemR S μ F M H ∧ EnvR S μ F M.length env σ ∧ denI C it env M = some r ∧ KI S W μ F H M.length σ R r
section
variable {S : Sta} {C : Orc} {W : WX} {X : Cx}
theorem piI {tg e : Expr} {t t' : TI} (h : PI X tg e t) (i : ∀ σ H R, t' σ H R → t σ H R) : PI X tg e t' := ⟨fun pins s σ H R I q => h.run pins s σ H R I (i σ H R q)⟩
/-- a list or a tuple that is there -/
theorem pi_seqI {tg l : Expr} {tl : TE} (hl : PE X l tl) : PI X tg l (fun σ H R => tl σ H fun x H1 => ∃ a, x = V.ref a ∧ (((∃ xs, SqL X.K H1 a xs) ∧ R (Itl X.K a) H1) ∨ ((∃ xs, SqT X.K H1 a xs) ∧ R (Itt X.K a) H1))) := by
  refine ⟨fun pins s σ H R I h => thn (hl.run pins s σ H _ I h) fun v s1 ⟨x, H1, I1, r1, a, ex, q⟩ => ?_⟩
  subst ex
  cases r1
  have fp : ∀ b ∈ [s1.heap.objs.size], FpOk X pins H1 b := fun b hb => by
    rw [List.mem_singleton.mp hb]
    exact I1.fpOk (Nat.le_refl _) (I1.hok.fresh (Nat.le_refl _))
  rcases q with ⟨⟨xs, hq⟩, q⟩ | ⟨⟨xs, hq⟩, q⟩
  · obtain ⟨its, _, p, _⟩ := I1.list hq
    exact wpAny_pyIter_list p.isList ⟨_, [s1.heap.objs.size], _, _, H1, rfl, I1.kept (t' := s1.toks) fun b o e => Heap.get?_push_of_some _ e, turn_list a _, ⟨_, Heap.get?_push_size _ rfl, rfl, rfl⟩, fp, q⟩
  · obtain ⟨its, _, p, _⟩ := I1.tuple hq
    exact wpAny_pyIter_tuple (show s1.heap.IsTuple a its.toArray from p) ⟨_, [s1.heap.objs.size], _, _, H1, rfl, I1.kept (t' := s1.toks) fun b o e => Heap.get?_push_of_some _ e, turn_tuple a _, ⟨_, Heap.get?_push_size _ rfl, rfl, rfl⟩, fp, q⟩
theorem yields_l {F : Hp} {a : Addr} {vs : List V} {xs : List D} (h : SqL S.K F a vs) (r : RepL S F xs vs) : Yields S (Itl S.K a) xs F := by
  have hl := repL_len r
  refine ⟨fun i F1 H e1 e2 hi => ?_, fun F1 H e1 e2 => ?_, fun i F1 H x H' e1 e2 hi y => ?_⟩
  · exact ⟨vs, vs[i]'(by omega), Evl.ex_l (e1.trans e2) h, List.getElem?_eq_getElem _⟩
  · exact ⟨vs, Evl.ex_l (e1.trans e2) h, by omega⟩
  · obtain ⟨rfl, y⟩ := y
    have q := y vs (Evl.ex_l (e1.trans e2) h)
    obtain ⟨v, hv, rv⟩ := repL_get r (List.getElem?_eq_getElem hi)
    rw [q] at hv
    cases hv
    exact ⟨_, F1, List.getElem?_eq_getElem hi, Grow.same e2, repD_ex e1 _ rv⟩
theorem yields_t {F : Hp} {a : Addr} {vs : List V} {xs : List D} (h : SqT S.K F a vs) (r : RepL S F xs vs) : Yields S (Itt S.K a) xs F := by
  have hl := repL_len r
  refine ⟨fun i F1 H e1 e2 hi => ?_, fun F1 H e1 e2 => ?_, fun i F1 H x H' e1 e2 hi y => ?_⟩
  · exact ⟨vs, vs[i]'(by omega), Evl.ex_t (e1.trans e2) h, List.getElem?_eq_getElem _⟩
  · exact ⟨vs, Evl.ex_t (e1.trans e2) h, by omega⟩
  · obtain ⟨rfl, y⟩ := y
    have q := y vs (Evl.ex_t (e1.trans e2) h)
    obtain ⟨v, hv, rv⟩ := repL_get r (List.getElem?_eq_getElem hi)
    rw [q] at hv
    cases hv
    exact ⟨_, F1, List.getElem?_eq_getElem hi, Grow.same e2, repD_ex e1 _ rv⟩
theorem rngL_get {lo hi : Int} {i : Nat} : (rngL lo hi)[i]? = if i < (hi - lo).toNat then some (D.int (lo + i)) else none := by
  unfold rngL
  rw [List.getElem?_map]
  by_cases h : i < (hi - lo).toNat
  · rw [if_pos h, List.getElem?_range h] <;> rfl
  · rw [if_neg h, List.getElem?_eq_none (by simpa using h)] <;> rfl
theorem rngL_len {lo hi : Int} : (rngL lo hi).length = (hi - lo).toNat := by unfold rngL; rw [List.length_map, List.length_range]
theorem yields_r {F : Hp} {lo hi : Int} : Yields S (Itr lo (hi - lo).toNat) (rngL lo hi) F := by
  refine ⟨fun i F1 H e1 e2 h => ?_, fun F1 H e1 e2 => ?_, fun i F1 H x H' e1 e2 h y => ?_⟩
  · rw [rngL_len] at h; exact h
  · rw [rngL_len]; exact Nat.le_refl _
  · obtain ⟨rfl, rfl⟩ := y
    rw [rngL_len] at h
    exact ⟨_, F1, by rw [rngL_get, if_pos h], Grow.same e2, rep_int (S := S) (F := F1)⟩

/-- for x in a list or a tuple -/
theorem pi_seqJ {tg l : Expr} {ie : IE} (hK : X.K = S.K) (hl : PE X l (rE S C W ie)) : PI X tg l (rI S C W (.seq ie)) := by
  refine piI (pi_seqI hl) fun σ H R q => ?_
  obtain ⟨μ, F, env, M, r, hM, hE, hd, hk⟩ := q
  unfold denI at hd
  rcases bnd_eq hd with ⟨v, M1, e1, h1⟩ | ⟨x, M1, e1, e2⟩
  · refine ⟨μ, F, env, M, _, hM, hE, e1, fun μ1 F1 H1 w a1 m1 q1 => ?_⟩
    unfold runSeq at h1
    cases q2 : v.hold M1 with
    | none => rw [q2] at h1; cases h1
    | some p =>
      obtain ⟨x, M2⟩ := p
      rw [q2] at h1
      obtain ⟨F2, m2, a2, rx⟩ := hold_ok m1 q1 q2
      rw [hK]
      cases x with
      | lst xs =>
        cases h1
        obtain ⟨a, vs, rfl, h2, h3⟩ := repD_lst rx
        exact ⟨a, rfl, .inl ⟨⟨vs, Evl.ex_l m2.sub (Evl.sq_of h2)⟩, hk μ1 F2 H1 _ (a1.trans a2) m2 (yields_l (Evl.sq_of h2) h3)⟩⟩
      | frl xs =>
        cases h1
        obtain ⟨a, vs, rfl, h2, h3⟩ := repD_frl rx
        exact ⟨a, rfl, .inl ⟨⟨vs, Evl.ex_l m2.sub h2⟩, hk μ1 F2 H1 _ (a1.trans a2) m2 (yields_l h2 h3)⟩⟩
      | tup xs =>
        cases h1
        obtain ⟨a, vs, rfl, h2, h3⟩ := repD_tup rx
        exact ⟨a, rfl, .inr ⟨⟨vs, Evl.ex_t m2.sub h2⟩, hk μ1 F2 H1 _ (a1.trans a2) m2 (yields_t h2 h3)⟩⟩
      | _ => cases h1
  · subst e2
    exact ⟨μ, F, env, M, _, hM, hE, e1, hk⟩
theorem runRange_cases {vs : List Val} {M : Mem} {r : R (List D)} (h : runRange vs M = some r) : (∃ j, vs = [.d (.int j)] ∧ rngOk j = true ∧ r = .ok (rngL 0 j) M) ∨ ∃ i j, vs = [.d (.int i), .d (.int j)] ∧ rngOk i = true ∧ rngOk j = true ∧ r = .ok (rngL i j) M := by
  unfold runRange at h
  split at h
  · split at h
    · rename_i q; cases h; exact .inl ⟨_, rfl, q, rfl⟩
    · cases h
  · split at h
    · rename_i q
      rw [Bool.and_eq_true] at q
      cases h
      exact .inr ⟨_, _, rfl, q.1, q.2, rfl⟩
    · cases h
  · cases h
theorem rngOk_iff {i : Int} (h : rngOk i = true) : -(2 ^ 62) ≤ i ∧ i < 2 ^ 62 := by
  unfold rngOk at h
  rw [Bool.and_eq_true, decide_eq_true_eq, decide_eq_true_eq] at h
  exact h
theorem pi_rng1J {tg a : Expr} {ia : IE} {p pos : Pos} (hg : Gl X "range") (hm : X.mg "range" = none) (ha : PA X [a] (rA S C W (.cons ia .nil))) (hs : ∀ y p, a ≠ .Starred y p) : PI X tg (.Call (.Name "range" p) [a] [] pos) (rI S C W (.range (.cons ia .nil))) := by
  refine piI (pi_range1 hg hm ha (star_no hs)) fun σ H R q => ?_
  obtain ⟨μ, F, env, M, r, hM, hE, hd, hk⟩ := q
  unfold denI at hd
  rcases bnd_eq hd with ⟨vs, M1, e1, h1⟩ | ⟨x, M1, e1, e2⟩
  · refine ⟨μ, F, env, M, _, hM, hE, e1, fun μ1 F1 H1 ws a1 m1 q1 => ?_⟩
    rcases runRange_cases h1 with ⟨j, rfl, ok, rfl⟩ | ⟨i, j, rfl, ok1, ok2, rfl⟩
    · obtain ⟨w, us, rfl, h2, h3⟩ := q1.cons
      rw [h3.nil, repD_int (S := S) (F := F1) h2]
      have k := rngOk_iff ok
      have z := hk μ1 F1 H1 _ a1 m1 (yields_r (lo := 0) (hi := j))
      rw [Int.sub_zero] at z
      exact ⟨j, rfl, k.1, k.2, z⟩
    · -- one argument cannot give two values
      unfold denEs at e1
      rcases bnd_eq e1 with ⟨v, M2, e3, h3⟩ | ⟨x, M2, e3, h3⟩
      · unfold denEs at h3
        cases h3
      · cases h3
  · subst e2
    exact ⟨μ, F, env, M, _, hM, hE, e1, hk⟩
theorem pi_rng2J {tg a b : Expr} {ia ib : IE} {p pos : Pos} (hg : Gl X "range") (hm : X.mg "range" = none) (ha : PA X [a, b] (rA S C W (.cons ia (.cons ib .nil)))) (hs : ∀ y p, a ≠ .Starred y p) (hs2 : ∀ y p, b ≠ .Starred y p) :
    PI X tg (.Call (.Name "range" p) [a, b] [] pos) (rI S C W (.range (.cons ia (.cons ib .nil)))) := by
  refine piI (pi_range2 hg hm ha (by rw [star_no hs, star_no hs2] <;> rfl) (star_no hs2)) fun σ H R q => ?_
  obtain ⟨μ, F, env, M, r, hM, hE, hd, hk⟩ := q
  unfold denI at hd
  rcases bnd_eq hd with ⟨vs, M1, e1, h1⟩ | ⟨x, M1, e1, e2⟩
  · refine ⟨μ, F, env, M, _, hM, hE, e1, fun μ1 F1 H1 ws a1 m1 q1 => ?_⟩
    rcases runRange_cases h1 with ⟨j, rfl, ok, rfl⟩ | ⟨i, j, rfl, ok1, ok2, rfl⟩
    · unfold denEs at e1
      rcases bnd_eq e1 with ⟨v, M2, e3, h3⟩ | ⟨x, M2, e3, h3⟩
      · rcases bnd_eq h3 with ⟨us, M3, e4, h4⟩ | ⟨x, M3, e4, h4⟩
        · unfold denEs at e4
          rcases bnd_eq e4 with ⟨u, M4, e5, h5⟩ | ⟨x, M4, e5, h5⟩
          · rcases bnd_eq h5 with ⟨us2, M5, e6, h6⟩ | ⟨x, M5, e6, h6⟩
            · cases h6; cases h4
            · cases h6
          · cases h5
        · cases h4
      · cases h3
    · obtain ⟨v, w, rfl, h2, h3⟩ := repVs_two q1
      rw [repD_int (S := S) (F := F1) h2, repD_int (S := S) (F := F1) h3]
      have k := rngOk_iff ok1
      have k' := rngOk_iff ok2
      exact ⟨i, j, rfl, ⟨k.1, k.2, k'.1, k'.2⟩, hk μ1 F1 H1 _ a1 m1 yields_r⟩
  · subst e2
    exact ⟨μ, F, env, M, _, hM, hE, e1, hk⟩

/-! ### enumerate, zip -/
theorem enumL_get : ∀ (xs : List D) (k i : Nat), (enumL k xs)[i]? = xs[i]?.map fun x => .tup [.int ((k + i : Nat) : Int), x]
  | [], k, i => by simp [enumL]
  | x :: xs, k, 0 => by simp [enumL]
  | x :: xs, k, i + 1 => by
    show (enumL (k + 1) xs)[i]? = _
    rw [enumL_get xs (k + 1) i]
    simp only [List.getElem?_cons_succ]
    rw [show k + 1 + i = k + (i + 1) by omega]
theorem enumL_len : ∀ (xs : List D) (k : Nat), (enumL k xs).length = xs.length
  | [], _ => rfl
  | x :: xs, k => by rw [enumL, List.length_cons, enumL_len xs (k + 1), List.length_cons]
theorem zipL_get : ∀ (xs ys : List D) (i : Nat) {x y : D}, xs[i]? = some x → ys[i]? = some y → (zipL xs ys)[i]? = some (.tup [x, y])
  | [], _, i, x, y, h, _ => by simp at h
  | _ :: _, [], i, x, y, _, h => by simp at h
  | a :: xs, b :: ys, 0, x, y, h, h2 => by
    simp at h h2
    subst h h2
    rfl
  | a :: xs, b :: ys, i + 1, x, y, h, h2 => zipL_get xs ys i (by simpa using h) (by simpa using h2)
theorem zipL_len : ∀ (xs ys : List D), (zipL xs ys).length = min xs.length ys.length
  | [], _ => by simp [zipL]
  | _ :: _, [] => by simp [zipL]
  | a :: xs, b :: ys => by
    rw [zipL, List.length_cons, zipL_len xs ys, List.length_cons, List.length_cons]
    omega
theorem yields_e {F : Hp} {a : Addr} {vs : List V} {xs : List D} (h : SqL S.K F a vs) (r : RepL S F xs vs) : Yields S (Ite S.K a) (enumL 0 xs) F := by
  have hl := repL_len r
  refine ⟨fun i F1 H e1 e2 hi => ?_, fun F1 H e1 e2 => ?_, fun i F1 H x H' e1 e2 hi y => ?_⟩
  · rw [enumL_len] at hi
    exact ⟨vs, vs[i]'(by omega), Evl.ex_l (e1.trans e2) h, List.getElem?_eq_getElem _⟩
  · rw [enumL_len]
    exact ⟨vs, Evl.ex_l (e1.trans e2) h, by omega⟩
  · rw [enumL_len] at hi
    obtain ⟨p, v, rfl, hp, rfl, y⟩ := y
    have q := y vs (Evl.ex_l (e1.trans e2) h)
    obtain ⟨v', hv, rv⟩ := repL_get r (List.getElem?_eq_getElem hi)
    rw [q] at hv
    cases hv
    have g := Grow.one e2 (.tup [.int (i : Nat), v]) hp
    refine ⟨_, _, by rw [enumL_get, List.getElem?_eq_getElem hi]; rfl, g, ?_⟩
    rw [Nat.zero_add]
    exact rep_tup (Evl.st_of upd_same) (repL_mk (rep_int (S := S) (i := (i : Nat))) (repL_one (repD_ex (e1.trans g.f) _ rv)))
theorem yields_z {F : Hp} {a b : Addr} {vs ws : List V} {xs ys : List D} (h : SqL S.K F a vs) (r : RepL S F xs vs) (h2 : SqL S.K F b ws) (r2 : RepL S F ys ws) : Yields S (Itz S.K a b) (zipL xs ys) F := by
  have hl := repL_len r
  have hl2 := repL_len r2
  refine ⟨fun i F1 H e1 e2 hi => ?_, fun F1 H e1 e2 => ?_, fun i F1 H x H' e1 e2 hi y => ?_⟩
  · rw [zipL_len] at hi
    exact ⟨vs, ws, vs[i]'(by omega), ws[i]'(by omega), Evl.ex_l (e1.trans e2) h, Evl.ex_l (e1.trans e2) h2, List.getElem?_eq_getElem _, List.getElem?_eq_getElem _⟩
  · rw [zipL_len]
    exact ⟨vs, ws, Evl.ex_l (e1.trans e2) h, Evl.ex_l (e1.trans e2) h2, by omega⟩
  · rw [zipL_len] at hi
    obtain ⟨p, v, w, rfl, hp, rfl, y, y2⟩ := y
    have q := y vs (Evl.ex_l (e1.trans e2) h)
    have q2 := y2 ws (Evl.ex_l (e1.trans e2) h2)
    obtain ⟨v', hv, rv⟩ := repL_get r (List.getElem?_eq_getElem (i := i) (by omega))
    obtain ⟨w', hw, rw'⟩ := repL_get r2 (List.getElem?_eq_getElem (i := i) (by omega))
    rw [q] at hv
    cases hv
    rw [q2] at hw
    cases hw
    have g := Grow.one e2 (.tup [v, w]) hp
    exact ⟨_, _, zipL_get xs ys i (List.getElem?_eq_getElem _) (List.getElem?_eq_getElem _), g, rep_tup (Evl.st_of upd_same) (repL_mk (repD_ex (e1.trans g.f) _ rv) (repL_one (repD_ex (e1.trans g.f) _ rw')))⟩
theorem yields_zt {F : Hp} {a b : Addr} {vs ws : List V} {xs ys : List D} (h : SqT S.K F a vs) (r : RepL S F xs vs) (h2 : SqT S.K F b ws) (r2 : RepL S F ys ws) : Yields S (RZ.ItzT S.K a b) (zipL xs ys) F := by
  have hl := repL_len r
  have hl2 := repL_len r2
  refine ⟨fun i F1 H e1 e2 hi => ?_, fun F1 H e1 e2 => ?_, fun i F1 H x H' e1 e2 hi y => ?_⟩
  · rw [zipL_len] at hi
    exact ⟨vs, ws, vs[i]'(by omega), ws[i]'(by omega), Evl.ex_t (e1.trans e2) h, Evl.ex_t (e1.trans e2) h2, List.getElem?_eq_getElem _, List.getElem?_eq_getElem _⟩
  · rw [zipL_len]
    exact ⟨vs, ws, Evl.ex_t (e1.trans e2) h, Evl.ex_t (e1.trans e2) h2, by omega⟩
  · rw [zipL_len] at hi
    obtain ⟨p, v, w, rfl, hp, rfl, y, y2⟩ := y
    have q := y vs (Evl.ex_t (e1.trans e2) h)
    have q2 := y2 ws (Evl.ex_t (e1.trans e2) h2)
    obtain ⟨v', hv, rv⟩ := repL_get r (List.getElem?_eq_getElem (i := i) (by omega))
    obtain ⟨w', hw, rw'⟩ := repL_get r2 (List.getElem?_eq_getElem (i := i) (by omega))
    rw [q] at hv
    cases hv
    rw [q2] at hw
    cases hw
    have g := Grow.one e2 (.tup [v, w]) hp
    exact ⟨_, _, zipL_get xs ys i (List.getElem?_eq_getElem _) (List.getElem?_eq_getElem _), g, rep_tup (Evl.st_of upd_same) (repL_mk (repD_ex (e1.trans g.f) _ rv) (repL_one (repD_ex (e1.trans g.f) _ rw')))⟩
theorem runEnum_cases {vs : List Val} {M : Mem} {r : R (List D)} (h : runEnum vs M = some r) : ∃ xs M1, r = .ok (enumL 0 xs) M1 ∧ (holds M vs = some ([.lst xs], M1) ∨ holds M vs = some ([.frl xs], M1)) := by
  unfold runEnum at h
  split at h
  · rename_i xs M1 q
    cases h
    exact ⟨xs, M1, rfl, .inl q⟩
  · rename_i xs M1 q
    cases h
    exact ⟨xs, M1, rfl, .inr q⟩
  · cases h
theorem runZip_cases {vs : List Val} {M : Mem} {r : R (List D)} (h : runZip vs M = some r) : ∃ xs ys M1, r = .ok (zipL xs ys) M1 ∧ (holds M vs = some ([.lst xs, .lst ys], M1) ∨ holds M vs = some ([.tup xs, .tup ys], M1)) := by
  unfold runZip at h
  split at h
  · rename_i xs ys M1 q
    cases h
    exact ⟨xs, ys, M1, rfl, .inl q⟩
  · rename_i xs ys M1 q
    cases h
    exact ⟨xs, ys, M1, rfl, .inr q⟩
  · cases h
theorem pi_enumJ {a : Expr} {ia : IE} {p pos tpos : Pos} {elts : List Expr} {kk : Nat} (hK : X.K = S.K) (hg : Gl X "enumerate") (hm : X.mg "enumerate" = none) (ha : PA X [a] (rA S C W (.cons ia .nil))) (hs : ∀ y p, a ≠ .Starred y p) : PI X (.Tuple elts kk tpos) (.Call (.Name "enumerate" p) [a] [] pos) (rI S C W (.enum (.cons ia .nil))) := by
  refine piI (pi_enum hg hm ha (star_no hs)) fun σ H R q => ?_
  obtain ⟨μ, F, env, M, r, hM, hE, hd, hk⟩ := q
  unfold denI at hd
  rcases bnd_eq hd with ⟨vs, M1, e1, h1⟩ | ⟨x, M1, e1, e2⟩
  · refine ⟨μ, F, env, M, _, hM, hE, e1, fun μ1 F1 H1 ws a1 m1 q1 => ?_⟩
    obtain ⟨xs, M2, rfl, h2⟩ := runEnum_cases h1
    rw [hK]
    rcases h2 with h2 | h2
    · obtain ⟨F2, m2, a2, r2⟩ := holds_ok m1 q1 h2
      obtain ⟨w, ws2, rfl, r3, r4⟩ := repL_cons r2
      cases ws2 with
      | cons _ _ => exact (show False by simpa only [RepL] using r4).elim
      | nil =>
        obtain ⟨b, vs2, rfl, k1, k2⟩ := repD_lst r3
        exact ⟨b, vs2, rfl, Evl.ex_l m2.sub (Evl.sq_of k1), hk μ1 F2 H1 _ (a1.trans a2) m2 (yields_e (Evl.sq_of k1) k2)⟩
    · obtain ⟨F2, m2, a2, r2⟩ := holds_ok m1 q1 h2
      obtain ⟨w, ws2, rfl, r3, r4⟩ := repL_cons r2
      cases ws2 with
      | cons _ _ => exact (show False by simpa only [RepL] using r4).elim
      | nil =>
        obtain ⟨b, vs2, rfl, k1, k2⟩ := repD_frl r3
        exact ⟨b, vs2, rfl, Evl.ex_l m2.sub k1, hk μ1 F2 H1 _ (a1.trans a2) m2 (yields_e k1 k2)⟩
  · subst e2
    exact ⟨μ, F, env, M, _, hM, hE, e1, hk⟩
theorem pi_zipJ {a b : Expr} {ia ib : IE} {p pos tpos : Pos} {elts : List Expr} {kk : Nat} (hK : X.K = S.K) (hg : Gl X "zip") (hm : X.mg "zip" = none) (ha : PA X [a, b] (rA S C W (.cons ia (.cons ib .nil)))) (hs : ∀ y p, a ≠ .Starred y p) (hs2 : ∀ y p, b ≠ .Starred y p) : PI X (.Tuple elts kk tpos) (.Call (.Name "zip" p) [a, b] [] pos) (rI S C W (.zip (.cons ia (.cons ib .nil)))) := by
  refine piI (RZ.pi_zipA hg hm ha (by rw [star_no hs, star_no hs2] <;> rfl) (by rw [star_no hs2] <;> rfl)) fun σ H R q => ?_
  obtain ⟨μ, F, env, M, r, hM, hE, hd, hk⟩ := q
  unfold denI at hd
  rcases bnd_eq hd with ⟨vs, M1, e1, h1⟩ | ⟨x, M1, e1, e2⟩
  · refine ⟨μ, F, env, M, _, hM, hE, e1, fun μ1 F1 H1 ws a1 m1 q1 => ?_⟩
    obtain ⟨xs, ys, M2, rfl, h2⟩ := runZip_cases h1
    rw [hK]
    rcases h2 with h2 | h2
    · obtain ⟨F2, m2, a2, r2⟩ := holds_ok m1 q1 h2
      obtain ⟨w, ws2, rfl, r3, r4⟩ := repL_cons r2
      obtain ⟨w', ws3, rfl, r5, r6⟩ := repL_cons r4
      cases ws3 with
      | cons _ _ => exact (show False by simpa only [RepL] using r6).elim
      | nil =>
        obtain ⟨b, vs2, rfl, k1, k2⟩ := repD_lst r3
        obtain ⟨b', vs3, rfl, k3, k4⟩ := repD_lst r5
        exact ⟨b, b', vs2, vs3, rfl, .inl ⟨Evl.ex_l m2.sub (Evl.sq_of k1), Evl.ex_l m2.sub (Evl.sq_of k3), hk μ1 F2 H1 _ (a1.trans a2) m2 (yields_z (Evl.sq_of k1) k2 (Evl.sq_of k3) k4)⟩⟩
    · obtain ⟨F2, m2, a2, r2⟩ := holds_ok m1 q1 h2
      obtain ⟨w, ws2, rfl, r3, r4⟩ := repL_cons r2
      obtain ⟨w', ws3, rfl, r5, r6⟩ := repL_cons r4
      cases ws3 with
      | cons _ _ => exact (show False by simpa only [RepL] using r6).elim
      | nil =>
        obtain ⟨b, vs2, rfl, k1, k2⟩ := repD_tup r3
        obtain ⟨b', vs3, rfl, k3, k4⟩ := repD_tup r5
        exact ⟨b, b', vs2, vs3, rfl, .inr ⟨Evl.ex_t m2.sub k1, Evl.ex_t m2.sub k3, hk μ1 F2 H1 _ (a1.trans a2) m2 (yields_zt k1 k2 k3 k4)⟩⟩
  · subst e2
    exact ⟨μ, F, env, M, _, hM, hE, e1, hk⟩

/-! ### for -/
theorem ps_forI {tg iter : Expr} {b : List Stmt} {it : II} {t : Tg} {ib : ISs} {pos : Pos} (hp : PassesOwn (model X.prog X.w) X.A X.env X.xe) (hc : X.calm = true) (hi : PI X tg iter (rI S C W it)) (hg : PG X tg (rG S t)) (hb : PSs X b (rSs S C W ib))
    (hs : ∀ x, foldedSetIterable iter X.env x = pure x) : PS X (.For tg iter b [] pos) (rS S C W (.for t it ib)) := by
  refine psI (ps_for hp hc hi hg hb hs) fun D σ H q => ?_
  obtain ⟨μ, F, env, M, f, hM, hE, hd, hk⟩ := q
  unfold denS at hd
  rcases bndS_eq hd with ⟨xs, M1, e1, h1⟩ | ⟨x, M1, e1, e2⟩
  · refine ⟨μ, F, env, M, _, hM, hE, e1, fun μ1 F1 H1 J a1 m1 hy => ?_⟩
    -- the word of the loop
    refine ⟨fun i m σ H => i + m = xs.length ∧ ∃ μ F env M f, Ex F1 F ∧ MemR S μ F M H ∧ EnvR S μ F M.length env σ ∧ forL t (denSs C ib) (xs.drop i) env M = some f ∧ KS S W μ F H M.length D f,
      ⟨xs.length, by omega, μ1, F1, env, M1, f, Evl.Ex.refl F1, m1, hE.aft a1, by simpa using h1, hk.weak a1⟩, ?_⟩
    rintro i m σ H ⟨him, μ, F, env, M, f, ex, hM, hE, hd, hk⟩
    by_cases hi : i < xs.length
    · refine .inr ⟨hy.go i F H ex hM.sub hi, fun σ' H' => (i + 1) + (m - 1) = xs.length ∧ ∃ μ F env M f, Ex F1 F ∧ MemR S μ F M H' ∧ EnvR S μ F M.length env σ' ∧ forL t (denSs C ib) (xs.drop (i + 1)) env M = some f ∧ KS S W μ F H' M.length D f,
        fun σ' H' h => ⟨m - 1, by omega, h⟩, fun x H' y => ?_⟩
      obtain ⟨z, F2, hz, g, rz⟩ := hy.yld i F H x H' ex hM.sub hi y
      have ed : xs.drop i = z :: xs.drop (i + 1) := by
        rw [List.drop_eq_getElem_cons hi]
        rw [List.getElem?_eq_getElem hi] at hz
        rw [Option.some.inj hz]
      rw [ed] at hd
      unfold forL at hd
      cases q1 : t.bind z env with
      | none => rw [q1] at hd; cases hd
      | some env1 =>
        simp only [q1] at hd
        refine ⟨μ, F2, M.length, env, z, env1, hE.aft g.aft, g.sub, rz, q1, fun σ1 hE1 _ => ?_⟩
        have m2 := hM.grow g
        have k2 := hk.weak g.aft
        cases q2 : denSs C ib env1 M with
        | none => rw [q2] at hd; cases hd
        | some h =>
          rw [q2] at hd
          refine ⟨μ, F2, env1, M, h, m2, hE1, q2, ?_⟩
          cases h with
          | nx env2 M2 => exact fun μ' F' H' σ' a mm ee => ⟨by omega, μ', F', env2, M2, f, (ex.trans g.f).trans a.f, mm, ee, hd, k2.weak a⟩
          | ct env2 M2 => exact fun μ' F' H' σ' a mm ee => ⟨by omega, μ', F', env2, M2, f, (ex.trans g.f).trans a.f, mm, ee, hd, k2.weak a⟩
          | bk env2 M2 =>
            cases hd
            exact fun μ' F' H' σ' a mm ee => k2 μ' F' H' σ' a mm ee
          | rt v M2 => cases hd; exact k2
          | ex x env2 M2 => cases hd; exact k2
    · have e : i = xs.length := by omega
      subst e
      rw [List.drop_length] at hd
      unfold forL at hd
      cases hd
      exact .inl ⟨hy.stop F H ex hM.sub, hk μ F H σ Aft.refl hM hE⟩
  · subst e2
    exact ⟨μ, F, env, M, _, hM, hE, e1, fun μ1 F1 H1 c d a m q => hk μ1 F1 H1 σ c d a m (hE.aft a) q⟩

/-! ### comprehensions -/
def rT (S : Sta) (C : Orc) (W : WX) (cs : IEs) : TT := fun σ H Q =>
  ∃ μ F env M r, MemR S μ F M H ∧ EnvR S μ F M.length env σ ∧ denT C cs env M = some r ∧ KB S W μ F H M.length σ Q r
theorem pts_nilI : PTs X [] (rT S C W .nil) := by
  refine ⟨fun pins s σ H Q I q => (pts_nil (X := X)).run pins s σ H Q I ?_⟩
  obtain ⟨μ, F, env, M, r, hM, hE, hd, hk⟩ := q
  unfold denT at hd
  cases hd
  exact hk μ F H Aft.refl hM
theorem pts_oneI {c : Expr} {ic : IE} (h : PT X c (rB S C W ic)) : PTs X [c] (rT S C W (.cons ic .nil)) := by
  refine ⟨fun pins s σ H Q I q => (pts_one h).run pins s σ H Q I ?_⟩
  obtain ⟨μ, F, env, M, r, hM, hE, hd, hk⟩ := q
  unfold denT at hd
  exact ⟨μ, F, env, M, r, hM, hE, hd, hk⟩
theorem wipe_get {σ : Sl} {i : Nat} : ∀ {vs : List Nat}, (L2.wipe σ vs)[i]? = if i ∈ vs ∧ i < σ.length then some none else σ[i]?
  | [] => by simp [L2.wipe]
  | v :: vs => by
    unfold L2.wipe
    have ih := wipe_get (σ := σ) (i := i) (vs := vs)
    by_cases hv : v = i
    · subst hv
      by_cases hl : v < σ.length
      · rw [List.getElem?_set_self (by rw [wipe_length]; exact hl), if_pos ⟨List.mem_cons_self, hl⟩]
      · rw [List.getElem?_eq_none (by rw [List.length_set, wipe_length]; omega), if_neg (fun z => hl z.2), List.getElem?_eq_none (by omega)]
    · rw [List.getElem?_set_ne hv, ih]
      have e : (i ∈ v :: vs ∧ i < σ.length) ↔ (i ∈ vs ∧ i < σ.length) := by
        simp only [List.mem_cons]
        constructor
        · rintro ⟨h | h, h2⟩
          · exact absurd h.symm hv
          · exact ⟨h, h2⟩
        · exact fun h => ⟨.inr h.1, h.2⟩
      by_cases q : i ∈ vs ∧ i < σ.length
      · rw [if_pos q, if_pos (e.mpr q)]
      · rw [if_neg q, if_neg (fun z => q (e.mp z))]
theorem wipe_only {σ σ1 : Sl} {vs sl : List Nat} (h : OnlyAt (L2.wipe σ vs) σ1 sl) (hs : ∀ i ∈ sl, i ∈ vs) : L2.wipe σ1 vs = L2.wipe σ vs := by
  apply List.ext_getElem?
  intro i
  have hl : σ1.length = σ.length := by rw [h.1, wipe_length]
  rw [wipe_get, wipe_get, hl]
  by_cases q : i ∈ vs ∧ i < σ.length
  · rw [if_pos q, if_pos q]
  · rw [if_neg q, if_neg q]
    by_cases hi : i ∈ sl
    · have : ¬ i < σ.length := fun z => q ⟨hs i hi, z⟩
      rw [List.getElem?_eq_none (by omega), List.getElem?_eq_none (by omega)]
    · rw [h.2 i hi, wipe_get, if_neg q]
/-- an object that stands by itself becomes known -/
theorem MemR.more {μ : Nat → Addr} {F H : Hp} {M : Mem} {p : Addr} {o : HO} (h : MemR S μ F M H) (ho : H p = some o) (hf : F p = none) (hn : ∀ n, n < M.length → μ n ≠ p) : MemR S μ (upd F p o) M H ∧ (Ex F (upd F p o) ∧ True) := by
  have ef : Ex F (upd F p o) := Evl.Ex.new hf
  refine ⟨⟨fun a u q => ?_, fun n c q => ?_, h.inj⟩, ef, trivial⟩
  · by_cases hx : a = p
    · subst hx; rw [upd_same] at q; rw [ho]; exact q
    · rw [upd_ne hx] at q; exact h.sub a u q
  · have ne := hn n (List.getElem?_eq_some_iff.mp q).1
    have z := h.cell n c q
    cases c with
    | lst xs => obtain ⟨k1, ws, k2, k3⟩ := z; exact ⟨by rw [upd_ne ne]; exact k1, ws, k2, repL_ex ef _ k3⟩
    | frz xs => obtain ⟨ws, k2, k3⟩ := z; exact ⟨ws, ef _ _ k2, repL_ex ef _ k3⟩
    | ins c fs => obtain ⟨k0, kk, k1, dx, ws, k2, k3, k4⟩ := z; exact ⟨k0, kk, by rw [upd_ne ne]; exact k1, dx, ws, k2, k3, repL_ex ef _ k4⟩
    | gone => exact z
/-- what a list comprehension asks, from its reading -/
theorem rE_lc {t : Tg} {own : List Nat} {it : II} {cs : IEs} {e : IE} (hs : ∀ i ∈ t.slots, i ∈ own) {σ : Sl} {H : Hp} {Q : VK} (q : rE S C W (.lc t own it cs e) σ H Q) :
    tLc (rI S C W it) (rG S t) (rT S C (fun _ _ _ _ => False) cs) (rE S C (fun _ _ _ _ => False) e) own σ H Q := by
  obtain ⟨μ, F, env, M, r, hM, hE, hd, hk⟩ := q
  unfold denE at hd
  rcases bnd_eq hd with ⟨xs, M1, e1, h1⟩ | ⟨x, M1, e1, e2⟩
  rotate_left
  · subst e2
    exact ⟨μ, F, env, M, _, hM, hE, e1, hk⟩
  refine ⟨μ, F, env, M, _, hM, hE, e1, fun μ1 F1 H1 J a1 m1 hy => ?_⟩
  intro Da hDa
  rcases bnd_eq h1 with ⟨zs, Mz, e3, h3⟩ | ⟨x, Mz, e3, h3⟩
  rotate_left
  · exfalso
    -- a comprehension lets nothing out
    have no : ∀ (xs acc : List D) (M : Mem), lcL t (wipeE env own) (denT C cs) (fun env M => bnd (denE C e env M) runHold) xs acc M ≠ some (.ex x Mz) := by
      intro xs
      induction xs with
      | nil => intro acc M h; unfold lcL at h; cases h
      | cons y ys ih =>
        intro acc M h
        unfold lcL at h
        split at h
        · cases h
        · split at h
          · exact ih _ _ h
          · split at h
            · split at h
              · exact ih _ _ h
              · cases h
            · cases h
          · cases h
    exact no _ _ _ e3
  cases h3
  have fD : F1 Da = none := Evl.fresh_back m1.sub hDa
  have g1 : Grow F1 F1 H1 (upd H1 Da (.lst [])) := ⟨Evl.Ex.refl F1, Evl.Ex.new hDa, fun a u q => .inl q, m1.sub.trans (Evl.Ex.new hDa)⟩
  have nD : ∀ n, n < M1.length → μ1 n ≠ Da := fun n hn z => by
    obtain ⟨o, ho⟩ := (m1.cell n _ (List.getElem?_eq_getElem hn)).there m1.sub
    rw [z, hDa] at ho
    cases ho
  refine ⟨fun i m H => i + m = xs.length ∧ ∃ μ F M acc vs, Aft μ1 F1 H1 M1.length μ F H M.length ∧ MemR S μ F M H ∧ H Da = some (.lst vs) ∧ RepL S F acc vs ∧ F Da = none ∧ (∀ n, n < M.length → μ n ≠ Da) ∧
      lcL t (wipeE env own) (denT C cs) (fun env M => bnd (denE C e env M) runHold) (xs.drop i) acc M = some (.ok zs Mz),
    ⟨xs.length, by omega, μ1, F1, M1, [], [], g1.aft, m1.grow g1, upd_same, repL_emp, fD, nD, by simpa using e3⟩, ?_⟩
  rintro i m H ⟨him, μ, F, M, acc, vs, aa, hM, hD, hr, hf, hn, hl⟩
  have aS := a1.trans aa
  by_cases hi : i < xs.length
  · refine .inr ⟨hy.go i F H aa.f hM.sub hi, fun H => (i + 1) + (m - 1) = xs.length ∧ ∃ μ F M acc vs, Aft μ1 F1 H1 M1.length μ F H M.length ∧ MemR S μ F M H ∧ H Da = some (.lst vs) ∧ RepL S F acc vs ∧ F Da = none ∧ (∀ n, n < M.length → μ n ≠ Da) ∧
      lcL t (wipeE env own) (denT C cs) (fun env M => bnd (denE C e env M) runHold) (xs.drop (i + 1)) acc M = some (.ok zs Mz),
      fun H' h => ⟨m - 1, by omega, h⟩, fun x H2 y => ?_⟩
    obtain ⟨z, F2, hz, g, rz⟩ := hy.yld i F H x H2 aa.f hM.sub hi y
    have ed : xs.drop i = z :: xs.drop (i + 1) := by
      rw [List.drop_eq_getElem_cons hi]
      rw [List.getElem?_eq_getElem hi] at hz
      rw [Option.some.inj hz]
    rw [ed] at hl
    unfold lcL at hl
    cases q1 : t.bind z (wipeE env own) with
    | none => rw [q1] at hl; cases hl
    | some env1 =>
      simp only [q1] at hl
      have m2 := hM.grow g
      have a2 := aS.trans g.aft
      have ew := (hE.aft a2).wipe own
      refine ⟨μ, F2, M.length, wipeE env own, z, env1, ew, g.sub, rz, q1, fun σ1 hE1 o1 => ⟨wipe_only o1 hs, ?_⟩⟩
      -- the list that grows stands apart
      have keep : ∀ {μ3 : Nat → Addr} {F3 H3 : Hp} {M3 : Mem}, Aft μ F2 H2 M.length μ3 F3 H3 M3.length → H3 Da = some (.lst vs) ∧ F3 Da = none ∧ ∀ n, n < M3.length → μ3 n ≠ Da := by
        intro μ3 F3 H3 M3 a3
        have hD2 := g.h _ _ hD
        have n3 : ∀ n, n < M3.length → μ3 n ≠ Da := fun n h z => by
          by_cases hk : n < M.length
          · rw [a3.mu n hk] at z; exact hn n hk z
          · have q := a3.new n (by omega) h
            rw [z, hD2] at q
            cases q
        refine ⟨a3.fr _ _ hD2 fun n h z => hn n h z.symm, ?_, n3⟩
        cases q : F3 Da with
        | none => rfl
        | some o =>
          rcases a3.fn _ _ q with z | z | ⟨n, h, z⟩
          · rcases g.new _ _ z with z | z
            · rw [hf] at z; cases z
            · rw [hD] at z; cases z
          · rw [hD2] at z; cases z
          · exact absurd z.symm (n3 n h)
      have a02 : Aft μ1 F1 H1 M1.length μ F2 H2 M.length := aa.trans g.aft
      cases q2 : denT C cs env1 M with
      | none => simp only [q2] at hl; cases hl
      | some rb =>
        cases rb with
        | ex x M3 => simp only [q2] at hl; cases hl
        | ok b M3 =>
          simp only [q2] at hl
          refine ⟨μ, F2, env1, M, _, m2, hE1, q2, fun μ3 F3 H3 a3 m3 => ?_⟩
          obtain ⟨hD3, hF3, n3⟩ := keep a3
          cases b with
          | false =>
            rw [if_neg (by decide)]
            simp only at hl
            exact ⟨by omega, μ3, F3, M3, acc, vs, a02.trans a3, m3, hD3, repL_ex (g.f.trans a3.f) _ hr, hF3, n3, hl⟩
          | true =>
            rw [if_pos rfl]
            simp only at hl
            cases q3 : denE C e env1 M3 with
            | none => simp only [q3, bnd_none] at hl; cases hl
            | some re =>
              cases re with
              | ex x M4 => simp only [q3, bnd_ex] at hl; cases hl
              | ok v M4 =>
                simp only [q3, bnd_ok] at hl
                refine ⟨μ3, F3, env1, M3, _, m3, hE1.aft a3, q3, fun μ4 F4 H4 w a4 m4 rw' => ?_⟩
                obtain ⟨hD4, hF4, n4⟩ := keep (a3.trans a4)
                cases q4 : v.hold M4 with
                | none => simp only [runHold, q4] at hl; cases hl
                | some p =>
                  obtain ⟨y, M5⟩ := p
                  simp only [runHold, q4] at hl
                  obtain ⟨F5, m5, a5, ry⟩ := hold_ok m4 rw' q4
                  obtain ⟨hD5, hF5, n5⟩ := keep ((a3.trans a4).trans a5)
                  split at hl
                  rotate_left
                  · cases hl
                  rename_i hz
                  have hlen : vs.length = acc.length := (repL_len hr).symm
                  refine ⟨vs, hD4, by rw [hlen]; exact hz, by omega, μ4, F5, M5, acc ++ [y], vs ++ [w], ?_, ?_, upd_same, repL_app (repL_ex ((g.f.trans (a3.trans a4).f).trans a5.f) _ hr) (repL_one ry), hF5, n5, hl⟩
                  · -- the store to the list
                    have at5 := ((a02.trans a3).trans a4).trans a5
                    refine ⟨at5.f, at5.le, at5.mu, fun a o q h => ?_, fun a o q => ?_, at5.new, at5.fn⟩
                    · rw [upd_ne (fun z => by rw [z, hDa] at q; cases q)]
                      exact at5.fr a o q h
                    · by_cases hx : a = Da
                      · exact ⟨_, by rw [hx]; exact upd_same⟩
                      · rw [upd_ne hx]; exact at5.dom a o q
                  · refine ⟨Evl.Ex.mut m5.sub hF5, fun n c q => ?_, m5.inj⟩
                    have hnl : n < M5.length := (List.getElem?_eq_some_iff.mp q).1
                    have z := m5.cell n c q
                    have ne := n5 n hnl
                    cases c with
                    | lst xs => obtain ⟨k1, ws, k2, k3⟩ := z; exact ⟨k1, ws, by rw [upd_ne ne]; exact k2, k3⟩
                    | frz xs => exact z
                    | ins c fs => obtain ⟨k0, kk, k1, dx, ws, k2, k3, k4⟩ := z; exact ⟨k0, kk, k1, dx, ws, by rw [upd_ne ne]; exact k2, k3, k4⟩
                    | gone => obtain ⟨u, k1⟩ := z; exact ⟨u, by rw [upd_ne ne]; exact k1⟩
  · have e4 : i = xs.length := by omega
    subst e4
    rw [List.drop_length] at hl
    unfold lcL at hl
    cases hl
    refine .inl ⟨hy.stop F H aa.f hM.sub, ?_⟩
    obtain ⟨m5, a5, _⟩ := hM.more hD hf hn
    refine hk μ _ H (.ref Da) (a1.trans ⟨aa.f.trans a5, aa.le, aa.mu, aa.fr, aa.dom, aa.new, fun a o q => ?_⟩) m5 (rep_lst upd_same (repL_ex a5 _ hr))
    by_cases hx : a = Da
    · exact .inr (.inl (by rw [hx]; exact hDa))
    · rw [upd_ne hx] at q; exact aa.fn a o q
end
end PyI

/-! PyI 8: from the text's tree to the small language; the readings hold. Expressions. -/
namespace PyI
open PySem PySem.Spec PyProof.Rows L2
open Evl (Ex)

/-- what names of the text stand for -/
structure Tb where
  fns : List (Str × Nat) := []
  dfls : List ((Nat × Nat) × List D) := []
  xs : List (Str × Nat) := []
  exs : List (Str × List Nat) := []
  cls : List (Str × (Nat × List Nat)) := []
  news : List (Str × (Nat × Nat × List Nat)) := []
  flds : List (Str × (Nat × List (Nat × Nat))) := []
  props : List (Str × List (Nat × Nat)) := []
  mths : List (Str × List (Nat × Nat)) := []
  cons : List ((Str × Str) × D) := []
  cmts : List ((Str × Str) × (Nat × Nat)) := []
  eqs : List (Nat × Nat) := []
  ups : List (Nat × Nat) := []
  reprs : List (Nat × Nat) := []
  glbs : List (Str × D) := []
  clsv : List (Str × (Nat × Nat × List Nat)) := []
  smts : List ((Str × Str) × (Nat × Nat)) := []
  kwd : List ((Nat × Nat × List Str) × List (Nat ⊕ D)) := []
  eql : List Str := []
structure Ctx where
  N : List Str
  sc : Scope
  top : Bool
  t : Tb
  muts : List Str
  calm : Bool
def Ctx.kind (c : Ctx) (x : Str) : Option NameKind := c.sc.names.lookup x
def slotOf : List Str → Str → Option Nat
  | [], _ => none
  | y :: ys, x => if x = y then some 0 else (slotOf ys x).map (· + 1)
theorem slotOf_get : ∀ {N : List Str} {x : Str} {i : Nat}, slotOf N x = some i → N[i]? = some x
  | [], _, _, h => by cases h
  | y :: ys, x, i, h => by
    unfold slotOf at h
    split at h
    · rename_i e
      cases h
      rw [e] <;> rfl
    · cases q : slotOf ys x with
      | none => rw [q] at h; cases h
      | some j =>
        rw [q] at h
        cases h
        show (y :: ys)[j + 1]? = some x
        rw [List.getElem?_cons_succ]
        exact slotOf_get q
def plainName (x : Str) : Bool := !(x == ("__debug__" : Str)) && !(x == ("__classdict__" : Str)) && !(x == ("__name__" : Str))
def isSeen : Option NameKind → Bool
  | some .local | some .cell | some .free => true
  | _ => false
def Ctx.var (c : Ctx) (x : Str) : Option Nat := if isSeen (c.kind x) && plainName x then slotOf c.N x else none
def Ctx.glb (c : Ctx) (x : Str) : Bool := c.kind x == some .globalImplicit && plainName x
def isStar : Expr → Bool
  | .Starred .. => true
  | _ => false
def isSlice : Expr → Bool
  | .Slice .. => true
  | _ => false
def isComp : Expr → Bool
  | .ListComp .. | .SetComp .. | .DictComp .. => true
  | _ => false
def binOp : Operator → Option Op
  | .Add => some .add | .Sub => some .sub | .Mult => some .mul | .FloorDiv => some .fdiv | .Mod => some .mod | .Pow => some .pow
  | _ => none
def cmpOp : CmpOp → Option Op
  | .Eq => some .eq | .NotEq => some .ne | .In => some .isin | .NotIn => some .notin | .Lt => some .lt | .LtE => some .le | .Gt => some .gt | .GtE => some .ge | .Is => some .is | .IsNot => some .isnot
/-- the built-in functions of several arguments -/
def bltOf (x : Str) (n : Nat) : Option Op :=
  if x = "len" ∧ n = 1 then some .len else if x = "abs" ∧ n = 1 then some .abs else if x = "max" ∧ n = 2 then some .max2 else if x = "min" ∧ n = 2 then some .min2 else if x = "int" ∧ n = 1 then some .int else if x = "sum" ∧ n = 1 then some .sum else none
def tyNames : List (Str × Ty) := [("int", .int), ("bool", .bool), ("str", .str), ("tuple", .tuple), ("list", .list), ("dict", .dict)]
def Ctx.ty (c : Ctx) : Expr → Option Ty
  | .Name x _ => if c.glb x then match c.t.cls.lookup x with
      | some p => some (.own p.1 p.2)
      | none => tyNames.lookup x
    else none
  | _ => none
def Ctx.tys (c : Ctx) : List Expr → Option (List Ty)
  | [] => some []
  | e :: es => match c.ty e, c.tys es with
    | some t, some ts => some (t :: ts)
    | _, _ => none
def compEs (f : Expr → Option IE) : List Expr → Option IEs
  | [] => some .nil
  | e :: es => if isStar e then none else match f e, compEs f es with
    | some a, some b => some (.cons a b)
    | _, _ => none
def compBool (f : Expr → Option IE) (op : BoolOp) : List Expr → Option IE
  | [] => none
  | [a] => f a
  | a :: b :: r => match f a, compBool f op (b :: r) with
    | some x, some y => some (match op with | .And => .and x y | .Or => .or x y)
    | _, _ => none
mutual
def compTg (c : Ctx) : Nat → Expr → Option Tg
  | 0, _ => none
  | n + 1, .Name x _ => if (c.kind x == some .local || (c.top && c.kind x == some .cell)) && plainName x then (slotOf c.N x).map .nm else none
  | n + 1, .Tuple es _ _ => (compTgs c n es).map .tp
  | _ + 1, _ => none
def compTgs (c : Ctx) : Nat → List Expr → Option (List Tg)
  | 0, _ => none
  | _ + 1, [] => some []
  | n + 1, e :: es => if isStar e then none else match compTg c n e, compTgs c n es with
    | some t, some ts => some (t :: ts)
    | _, _ => none
end
def isTupE : Expr → Bool
  | .Tuple .. => true
  | _ => false
def compI (c : Ctx) (tg : Expr) (f : Expr → Option IE) : Expr → Option II
  | .Call (.Name x p) args [] pos =>
    if x = "enumerate" then if c.glb x && isTupE tg then match args with
        | [a] => if isStar a then none else (f a).map fun ia => .enum (.cons ia .nil)
        | _ => none
      else none
    else if x = "zip" then if c.glb x && isTupE tg then match args with
        | [a, b] => if isStar a || isStar b then none else match f a, f b with
          | some ia, some ib => some (.zip (.cons ia (.cons ib .nil)))
          | _, _ => none
        | _ => none
      else none
    else if x = "range" then if c.glb x then match args with
        | [a] => if isStar a then none else (f a).map fun ia => .range (.cons ia .nil)
        | [a, b] => if isStar a || isStar b then none else match f a, f b with
          | some ia, some ib => some (.range (.cons ia (.cons ib .nil)))
          | _, _ => none
        | _ => none
      else none
    else (f (.Call (.Name x p) args [] pos)).map .seq
  | .Set .. => none
  | e => (f e).map .seq
/-- surely no instance -/
def isPlainE : Expr → Bool
  | .Constant .. | .Tuple .. | .List .. | .Dict .. | .BinOp .. | .UnaryOp .. | .ListComp .. | .JoinedStr .. => true
  | .Call (.Name x _) _ _ _ => x == ("len" : Str) || x == ("abs" : Str) || x == ("int" : Str) || x == ("repr" : Str) || x == ("sum" : Str) || x == ("tuple" : Str) || x == ("list" : Str) || x == ("sorted" : Str)
  | _ => false
def isSet : Expr → Bool
  | .Set .. => true
  | _ => false
/-- an object whose attribute is asked for: no call of a name without arguments -/
def plainObj : Expr → Bool
  | .Call (.Name _ _) [] [] _ => false
  | _ => true
def Ctx.dfl (c : Ctx) (f n : Nat) : List D := (c.t.dfls.lookup (f, n)).getD []
def isEqOp : CmpOp → Bool
  | .Eq | .NotEq => true
  | _ => false
/-- a name of a list of instances -/
def isEql (c : Ctx) : Expr → Bool
  | .Name x _ => c.t.eql.contains x
  | _ => false
/-- a comparison -/
def compCmp (c : Ctx) (f : Expr → Option IE) (a : Expr) (op : CmpOp) (b : Expr) : Option IE :=
  match cmpOp op, f a, f b with
  | some o, some x, some y => if isSet b then none else if isEqOp op && c.calm && (isEql c a || isEql c b) then some (.eql (op == .NotEq) c.t.eqs x y) else if isEqOp op && !isPlainE a && !isPlainE b then (if c.calm then some (.eqo (op == .NotEq) c.t.eqs c.t.ups x y) else none) else some (.op o (.cons x (.cons y .nil)))
  | _, _, _ => none
def compO (f : Expr → Option IE) : Option Expr → Option (Option IE)
  | none => some none
  | some e => (f e).map some
/-- the own names of a comprehension's block -/
def ownOf (N : List Str) : List (Str × NameKind) → List (Str × Nat)
  | [] => []
  | (x, k) :: r => match k with
    | .local | .cell => match slotOf N x with
      | some i => (x, i) :: ownOf N r
      | none => ownOf N r
    | _ => ownOf N r
def Ctx.blk (c : Ctx) (scope : Scope) : Ctx := { c with sc := relS scope c.sc, top := false }
def compLc (c : Ctx) (n : Nat) (f : Ctx → Expr → Option IE) (g : Ctx → Expr → Option IE) (elt tg iter : Expr) (ifs : List Expr) (scope : Scope) : Option IE :=
  match compTg (c.blk scope) n tg, compI c tg (f c) iter, f (c.blk scope) elt with
  | some t, some it, some e =>
    if blkC c.N c.sc scope (ownOf c.N scope.names) && (t.slots.all fun i => decide (i ∈ (ownOf c.N scope.names).map (·.2))) then match ifs with
      | [] => some (.lc t ((ownOf c.N scope.names).map (·.2)) it .nil e)
      | [a] => (g (c.blk scope) a).map fun ia => .lc t ((ownOf c.N scope.names).map (·.2)) it (.cons ia .nil) e
      | _ => none
    else none
  | _, _, _ => none
def kwNames : List Keyword → Option (List Str)
  | [] => some []
  | ⟨some x, _, _⟩ :: r => (kwNames r).map (x :: ·)
  | _ => none
def kwVals : List Keyword → List Expr
  | [] => []
  | ⟨_, e, _⟩ :: r => e :: kwVals r
def mthIE (c : Ctx) (tbl : List (Nat × Nat)) (n : Nat) (io : IE) (ies : IEs) : IE := match tbl with
  | [(_, g)] => .mth tbl (.dfl (c.dfl g (n + 1))) io ies
  | _ => .mth tbl (.dfl []) io ies
mutual
def compE : Nat → Ctx → Expr → Option IE
  | 0, _, _ => none
  | n + 1, c, e => match e with
    | .Constant (.int i) _ _ => some (.cst (.int i))
    | .Constant (.bool b) _ _ => some (.cst (.bl b))
    | .Constant .none _ _ => some (.cst .non)
    | .Constant (.str x) _ _ => some (.cst (.str x))
    | .Name x _ => if c.glb x then (c.t.glbs.lookup x).map .cst else (c.var x).map .var
    | .BinOp a op b _ => match binOp op, compE n c a, compE n c b with
      | some o, some x, some y => some (.op o (.cons x (.cons y .nil)))
      | _, _, _ => none
    | .UnaryOp .USub a _ => (compE n c a).map fun x => .op .neg (.cons x .nil)
    | .UnaryOp .Not a _ => (compE n c a).map .not
    | .Compare a [op] [b] _ => compCmp c (compE n c) a op b
    | .Compare a [op, op'] [b, d] _ => if isSet b || isSet d then none else match cmpOp op, cmpOp op', compE n c a, compE n c b, compE n c d with
      | some o, some o', some x, some y, some z => some (.chain o o' x y z)
      | _, _, _, _, _ => none
    | .JoinedStr [v] _ => match v with
      | .FormattedValue e k none _ => if k == -1 && c.calm then (compE n c e).map fun x => .op .fmt (.cons x .nil) else none
      | _ => none
    | .JoinedStr (v1 :: v2 :: rest) _ => if c.calm then (compEs (compE n c) (v1 :: v2 :: rest)).map .fstr else none
    | .FormattedValue e k none _ => if k == -1 && c.calm then (compE n c e).map fun x => .op .fmt (.cons x .nil) else none
    | .Attribute e f _ => if plainObj e then match c.t.flds.lookup f, compE n c e with
        | some p, some x => some (.fld p.1 p.2 x)
        | none, some x => if c.calm then (c.t.props.lookup f).map fun tbl => .prop tbl x else none
        | _, none => match e with
          | .Name x _ => if c.glb x then (c.t.cons.lookup (x, f)).map .cst else none
          | _ => none
      else none
    | .Call (.Attribute (.Name x np) m apos) args [] pos => if c.glb x then (if c.calm && (apos.endLine == pos.line) && decide (args.length < 20) then match c.t.cmts.lookup (x, m), compEs (compE n c) args with
        | some p, some ies => some (.call p.2 (.cons (.cst (.cls p.1)) ies))
        | none, some ies => match args with
          | [] => none
          | _ :: _ => (c.t.smts.lookup (x, m)).map fun p => .call p.2 ies
        | _, _ => none
      else none) else if c.calm && (apos.endLine == pos.line) && decide (args.length < 20) then match c.t.mths.lookup m, compE n c (.Name x np), compEs (compE n c) args with
        | some tbl, some io, some ies => some (mthIE c tbl args.length io ies)
        | _, _, _ => none
      else none
    | .Call (.Attribute o m apos) args [] pos => if plainObj o && c.calm && (apos.endLine == pos.line) && decide (args.length < 20) then match c.t.mths.lookup m, compE n c o, compEs (compE n c) args with
        | some tbl, some io, some ies => some (mthIE c tbl args.length io ies)
        | _, _, _ => none
      else none
    | .BoolOp op vs _ => compBool (compE n c) op vs
    | .IfExp t a b _ => match compT n c t, compE n c a, compE n c b with
      | some it, some x, some y => some (.ife it x y)
      | _, _, _ => none
    | .Tuple es _ _ => (compEs (compE n c) es).map (.op .tup)
    | .List es _ => (compEs (compE n c) es).map (.op .lst)
    | .Dict [] [] _ => some (.op .emp .nil)
    | .Subscript a (.Slice lo hi none _) _ => match compE n c a, compO (compE n c) lo, compO (compE n c) hi with
      | some x, some l, some h => some (.op (.slice l.isSome h.isSome) (.cons x (partEs l (partEs h .nil))))
      | _, _, _ => none
    | .Subscript a (.Slice none none (some (.UnaryOp .USub (.Constant (.int 1) _ _) _)) _) _ => (compE n c a).map fun x => .op .rev (.cons x .nil)
    | .Subscript a i _ => if isSlice i then none else match compE n c a, compE n c i with
      | some x, some y => some (.op .ix (.cons x (.cons y .nil)))
      | _, _ => none
    | .Call (.Name x _) args [] _ =>
      if c.glb x then match c.t.fns.lookup x with
        | some f => if c.calm then match c.t.dfls.lookup (f, args.length) with
            | some ds => (compEs (compE n c) args).map (.callp f (.dfl ds))
            | none => (compEs (compE n c) args).map (.call f)
          else none
        | none => match c.t.news.lookup x with
        | some p => if c.calm then (compEs (compE n c) args).map (.new p.1 p.2.2 p.2.1 (.dfl (c.dfl p.2.1 (args.length + 1)))) else none
        | none => if x = "repr" then match args with
            | [a] => if isStar a || !c.calm then none else (compE n c a).map (.rpr c.t.reprs)
            | _ => none
          else if x = "isinstance" then match args with
            | [a, .Tuple ts _ _] => if isStar a then none else match compE n c a, c.tys ts with
              | some ia, some l => if l ≠ [] ∧ l.length ≤ 100 then some (.op (.isi l) (.cons ia .nil)) else none
              | _, _ => none
            | [a, t] => if isStar a then none else match compE n c a, c.ty t with
              | some ia, some t => some (.op (.isi [t]) (.cons ia .nil))
              | _, _ => none
            | _ => none
          else match args, bltOf x args.length with
            | _ :: _, some o => if c.calm then (compEs (compE n c) args).map (.op o) else none
            | _, _ => none
      else match c.var x, c.t.clsv.lookup x, args with
        | some i, some p, _ :: _ => if c.calm then (compEs (compE n c) args).map (.newv i p.1 p.2.2 p.2.1 (.dfl (c.dfl p.2.1 (args.length + 1)))) else none
        | _, _, _ => none
    | .Call (.Name x _) (a₀ :: args) (kw :: kws) _ => if c.glb x && c.calm then match c.t.news.lookup x, kwNames (kw :: kws) with
        | some p, some ns => match c.t.kwd.lookup (p.2.1, args.length + 2, ns), compEs (compE n c) (a₀ :: args), compEs (compE n c) (kwVals (kw :: kws)) with
          | some q, some ia, some ik => some (.new p.1 p.2.2 p.2.1 (.by q) (appEs ia ik))
          | _, _, _ => none
        | _, _ => none
      else none
    | .ListComp elt [⟨tg, iter, ifs, 0⟩] scope _ => if c.calm then compLc c n (compE n) (compT n) elt tg iter ifs scope else none
    | _ => none
def compT : Nat → Ctx → Expr → Option IE
  | 0, _, _ => none
  | n + 1, c, e => match e with
    | .UnaryOp .Not a _ => (compT n c a).map .not
    | .BoolOp op vs _ => compBool (compT n c) op vs
    | .IfExp .. => none
    | .Compare a [op] [b] _ => compCmp c (compE n c) a op b
    | .Compare a [op, op'] [b, d] _ => if isSet b || isSet d then none else match cmpOp op, cmpOp op', compE n c a, compE n c b, compE n c d with
      | some o, some o', some x, some y, some z => some (.chain o o' x y z)
      | _, _, _, _, _ => none
    | .Compare .. => none
    | e => compE n c e
end

/-- an own exception's class without __init__, as the top left it -/
structure ExF (K : PySem.W.Frag) (Ca : Addr) : Prop where
  base : ∃ B newId initId bmB, ExcBaseFacts B newId initId bmB ∧ PySem.W.excIn K Ca bmB newId = true
  keep : PySem.W.keepIn K (.ref Ca) = true
  sub : PySem.W.subIn K (.ref Ca) (.type "BaseException") = some true
  ty : PySem.W.typeIn K (.ref Ca) = some (.type "type")
def bltNames : List Str := ["len", "abs", "max", "min", "int", "range", "isinstance", "bool", "str", "tuple", "list", "dict", "sum", "enumerate", "zip", "repr", "sorted", "set", "any", "all", "divmod"]
/-- the tables are right -/
structure TabOk (S : Sta) (mg : Str → Option Value) (t : Tb) : Prop where
  base : BaseF S
  blt : ∀ x, x ∈ bltNames → mg x = none
  fns : ∀ x g, t.fns.lookup x = some g → mg x = some (.ref (S.fa g)) ∧ PySem.W.keepIn S.K (.ref (S.fa g)) = true
  dfl : ∀ p ds, t.dfls.lookup p = some ds → DflF S p.1 ds ∧ S.fix p.1 = true
  xs : ∀ x k, t.xs.lookup x = some k → S.has k = true ∧ mg x = some (.ref (S.ca k)) ∧ ExF S.K (S.ca k)
  exs : ∀ x l, t.exs.lookup x = some l → ∃ Ca, mg x = some (.ref Ca) ∧ ∀ i, S.has i = true → PySem.W.exmOne S.K (.ref (S.ca i)) (.ref Ca) = some (l.contains i)
  cls : ∀ x d cs, t.cls.lookup x = some (d, cs) → mg x = some (.ref (S.ca d)) ∧ OwnTy S d cs
  news : ∀ x c f fl, t.news.lookup x = some (c, f, fl) → S.ih c = true ∧ mg x = some (.ref (S.ca c)) ∧ Mk S.K (S.ca c) (S.fa f) ∧ fl = S.cf c
  flds : ∀ x f cs, t.flds.lookup x = some (f, cs) → FldF S x f cs ∧ ∀ c, S.ih c = true → NoAttr S.K (S.ca c) x
  props : ∀ x tbl, t.props.lookup x = some tbl → PropF S x tbl
  mths : ∀ x tbl, t.mths.lookup x = some tbl → MthF S x tbl
  cons : ∀ x f d, t.cons.lookup (x, f) = some d → isC d = true ∧ ∃ Ca mc u, mg x = some (.ref Ca) ∧ ClX.CRead S.K Ca mc ∧ ClX.CVal S.K Ca mc f (toV d) u
  eqs : EqF S t.eqs t.ups
  reprs : ReprF S t.reprs
  clsv : ∀ x c f fl, t.clsv.lookup x = some (c, f, fl) → S.ih c = true ∧ Mk S.K (S.ca c) (S.fa f) ∧ fl = S.cf c
  cmts : ∀ x m c g, t.cmts.lookup (x, m) = some (c, g) → S.ih c = true ∧ mg x = some (.ref (S.ca c)) ∧ ∃ mc p, ClX.CRead S.K (S.ca c) mc ∧ ClX.CMet S.K (S.ca c) mc m p (S.fa g)
  smts : ∀ x m c g, t.smts.lookup (x, m) = some (c, g) → S.ih c = true ∧ mg x = some (.ref (S.ca c)) ∧ ∃ mc p, ClX.CRead S.K (S.ca c) mc ∧ SMet S.K (S.ca c) mc m p (S.fa g)
  kwd : ∀ g n ks q, t.kwd.lookup (g, n, ks) = some q → S.fix g = true ∧ (∀ d, Sum.inr d ∈ q → isC d = true) ∧ ∃ gU, KBn S.K (S.fd g) (S.ps g) n ks gU (gVof q)
  glbs : ∀ x d, t.glbs.lookup x = some d → ∃ v u, mg x = some u ∧ RelV v u ∧ ∀ F, RepD S F d v
/-- the defs, at a level -/
structure Runs (S : Sta) (C : Orc) (X : Cx) (k : Nat) : Prop where
  len : ∀ g, S.fix g = true → ∀ as M r, C g as M = some r → as.length = (S.ps g).length
  r : ∀ g, GoR X.prog X.w X.K X.mg X.base (L2.CX X.prog X.w) k (S.fa g) (spF S C g)
  f : ∀ g, S.fix g = true → GoF X.prog X.w X.K X.mg X.base (L2.CX X.prog X.w) k (S.fa g) (S.fd g) (S.ps g) (fun vs H Q E => vs.length = (S.ps g).length ∧ spF S C g vs H Q E)
/-- what is known where code runs -/
structure XOk (S : Sta) (C : Orc) (W : WX) (X : Cx) (c : Ctx) : Prop where
  K : X.K = S.K
  calm : c.calm = true → X.calm = true
  nd : X.N.Nodup
  N : X.N = c.N
  sc : X.env.scope = c.sc
  fn : c.top = true → ∀ x, X.fn x = true
  takes : Takes X W
  units : X.A.units + 200 < cLine
  tab : TabOk S X.mg c.t
  runs : c.calm = true → X.A.guards = some [] ∧ ∃ k, Room (k + 1) X.A ∧ Runs S C X k
/-- what nothing raises, passes -/
theorem quietCT {P : Program} {w : World} (st : List PySem.Env) (H : Hp) (s : Shared) (e : Value) (s' : Shared) (h : L2.CX P w st H s (fun _ _ _ => False) e s') : False := by
  obtain ⟨_, _, _, _, _, _, _, _, _, _, _, _, z⟩ := h
  exact z

section
variable {S : Sta} {C : Orc} {W : WX} {X : Cx} {c : Ctx}
theorem plain_1 {x : Str} (h : plainName x = true) : (x == ("__debug__" : Str)) = false := by
  unfold plainName at h
  simp only [Bool.and_eq_true, Bool.not_eq_true'] at h
  exact h.1.1
theorem plain_2 {x : Str} (h : plainName x = true) : (x == ("__classdict__" : Str)) = false := by
  unfold plainName at h
  simp only [Bool.and_eq_true, Bool.not_eq_true'] at h
  exact h.1.2
theorem plain_3 {x : Str} (h : plainName x = true) : x ≠ "__name__" := by
  unfold plainName at h
  simp only [Bool.and_eq_true, Bool.not_eq_true'] at h
  intro e
  subst e
  have z := h.2
  simp at z
theorem XOk.seen (O : XOk S C W X c) {x : Str} {i : Nat} (h : c.var x = some i) : X.N[i]? = some x ∧ Vis X.env.scope x ∧ plainName x = true := by
  unfold Ctx.var at h
  split at h
  · rename_i q
    rw [Bool.and_eq_true] at q
    refine ⟨by rw [O.N]; exact slotOf_get h, ?_, q.2⟩
    have k := q.1
    unfold Ctx.kind at k
    unfold Vis
    rw [O.sc]
    cases e : c.sc.names.lookup x with
    | none => rw [e] at k; cases k
    | some y =>
      rw [e] at k
      cases y with
      | «local» => exact .inl rfl
      | cell => exact .inr (.inl rfl)
      | free => exact .inr (.inr rfl)
      | globalExplicit => cases k
      | globalImplicit => cases k
  · cases h
theorem XOk.gl (O : XOk S C W X c) {x : Str} (h : c.glb x = true) : Gl X x ∧ plainName x = true := by
  unfold Ctx.glb at h
  rw [Bool.and_eq_true] at h
  refine ⟨?_, h.2⟩
  unfold Gl Env.kindOf
  rw [O.sc]
  exact eq_of_beq h.1
theorem star_of {e : Expr} (h : ¬ isStar e = true) : ∀ y p, e ≠ .Starred y p := by
  intro y p e
  subst e
  exact h rfl
theorem back_any (pos : Pos) (l : List (Bool × Sem Value)) : (backTo pos l).any (·.1) = l.any (·.1) := by
  unfold backTo
  rw [List.any_map]
  rfl
theorem compEs_star {f : Expr → Option IE} {env : PySem.Env} : ∀ {es : List Expr} {ies : IEs}, compEs f es = some ies → (starEach es env).any (·.1) = false
  | [], _, _ => rfl
  | e :: es, ies, h => by
    unfold compEs at h
    split at h
    · cases h
    · rename_i hs
      rw [star_no (star_of hs)]
      split at h
      · rename_i a b h1 h2
        show (false || (starEach es env).any (·.1)) = false
        rw [compEs_star h2] <;> rfl
      · cases h
theorem compEs_ok {f : Expr → Option IE} (ih : ∀ e ie, f e = some ie → PE X e (rE S C W ie)) : ∀ {es : List Expr} {ies : IEs}, compEs f es = some ies → PA X es (rA S C W ies)
  | [], ies, h => by
    unfold compEs at h
    cases h
    exact pa_nilI
  | e :: es, ies, h => by
    unfold compEs at h
    split at h
    · cases h
    · rename_i hs
      split at h
      · rename_i a b h1 h2
        cases h
        exact pa_consI (ih e a h1) (compEs_ok ih h2) (star_of hs)
      · cases h
theorem compBool_ok {f : Expr → Option IE} (ih : ∀ e ie, f e = some ie → PE X e (rE S C W ie)) {op : BoolOp} {pos : Pos} : ∀ {vs : List Expr} {ie : IE}, compBool f op vs = some ie → PE X (.BoolOp op vs pos) (rE S C W ie)
  | [], ie, h => by unfold compBool at h; cases h
  | [a], ie, h => by unfold compBool at h; exact pe_one (ih a ie h)
  | a :: b :: r, ie, h => by
    unfold compBool at h
    split at h
    · rename_i x y h1 h2
      cases h
      cases op with
      | And => exact peI (pe_and (ih a x h1) (compBool_ok ih h2)) fun _ _ _ q => rE_and q
      | Or => exact peI (pe_or (ih a x h1) (compBool_ok ih h2)) fun _ _ _ q => rE_or q
    · cases h
theorem compBool_okT {f : Expr → Option IE} (ih : ∀ e ie, f e = some ie → PT X e (rB S C W ie)) {op : BoolOp} {pos : Pos} : ∀ {vs : List Expr} {ie : IE}, compBool f op vs = some ie → PW X (.BoolOp op vs pos) (rB S C W ie)
  | [], ie, h => by unfold compBool at h; cases h
  | [a], ie, h => by
    unfold compBool at h
    cases op with
    | And => exact pw_and1 (ih a ie h)
    | Or => exact pw_or1 (ih a ie h)
  | a :: b :: r, ie, h => by
    unfold compBool at h
    split at h
    · rename_i x y h1 h2
      cases h
      cases op with
      | And => exact pwI (pw_and (ih a x h1) (compBool_okT ih h2)) fun _ _ _ q => rB_and q
      | Or => exact pwI (pw_or (ih a x h1) (compBool_okT ih h2)) fun _ _ _ q => rB_or q
    · cases h

/-! ### the tables -/
theorem bin_rule (O : XOk S C W X c) {op : Operator} {o : Op} (h : binOp op = some o) : ∃ r, OpR X (binaryOp op) r ∧ Two0 S o r ∧ o.keeps = false := by
  cases op <;> cases h
  · exact ⟨_, opR_or op_add_str (opR_or op_add (opR_or op_cat op_catA)), by rw [O.K]; exact two_add, rfl⟩
  · exact ⟨_, op_sub, two_sub, rfl⟩
  · exact ⟨_, opR_or (opR_or op_mul op_mulW) op_rep, two_mul, rfl⟩
  · exact ⟨_, opR_or op_mod op_modN, two_mod, rfl⟩
  · exact ⟨_, op_pow, two_pow, rfl⟩
  · exact ⟨_, op_fdivW, two_fdiv, rfl⟩
theorem cmp_rule (O : XOk S C W X c) {op : CmpOp} {o : Op} (h : cmpOp op = some o) : ∃ r, OpR X (compareOp op) r ∧ Two0 S o r ∧ o.keeps = false := by
  cases op <;> cases h
  · exact ⟨_, op_eqD (by have := O.units; omega), by rw [O.K]; exact two_eq, rfl⟩
  · exact ⟨_, op_neD (by have := O.units; omega), by rw [O.K]; exact two_ne, rfl⟩
  · exact ⟨_, op_lt, two_lt, rfl⟩
  · exact ⟨_, op_le, two_le, rfl⟩
  · exact ⟨_, op_gt, two_gt, rfl⟩
  · exact ⟨_, op_ge, two_ge, rfl⟩
  · exact ⟨_, opR_or op_isN (opR_or op_isBl op_isI), two_is, rfl⟩
  · exact ⟨_, opR_or op_notN (opR_or op_notBl op_notI), two_isnot, rfl⟩
  · exact ⟨_, op_inO (by have := O.units; omega), by rw [O.K]; exact two_in, rfl⟩
  · exact ⟨_, op_notinO (by have := O.units; omega), by rw [O.K]; exact two_notin, rfl⟩
theorem callR_or {f : Value} {r r' : List V → Hp → VK → Prop} (h : CallR X f r) (h' : CallR X f r') : CallR X f (fun xs H Q => r xs H Q ∨ r' xs H Q) := by
  intro pins s σ H xs us Q I rr q
  rcases q with q | q
  · exact h pins s σ H xs us Q I rr q
  · exact h' pins s σ H xs us Q I rr q
/-- a built-in function, found by its name -/
theorem blt_rule (O : XOk S C W X c) (hcalm : c.calm = true) {x : Str} {n : Nat} {o : Op} (h : bltOf x n = some o) : ∃ r, X.mg x = none ∧ Many0 S o r ∧ o.keeps = false ∧
    ((∃ id, bootBuiltins x = some (.builtin id) ∧ CallR X (.builtin id) r) ∨ ∃ T, bootBuiltins x = some (.type T) ∧ CallR X (.type T) r) := by
  unfold bltOf at h
  split at h
  · rename_i q; obtain ⟨rfl, _⟩ := q; cases h
    exact ⟨_, O.tab.blt _ (by decide), by rw [O.K]; exact many_len, rfl, .inl ⟨_, by decide +kernel, call_len_seq⟩⟩
  split at h
  · rename_i q; obtain ⟨rfl, _⟩ := q; cases h
    exact ⟨_, O.tab.blt _ (by decide), many_abs, rfl, .inl ⟨_, by decide +kernel, call_abs⟩⟩
  split at h
  · rename_i q; obtain ⟨rfl, _⟩ := q; cases h
    exact ⟨_, O.tab.blt _ (by decide), many_max2, rfl, .inl ⟨_, by decide +kernel, call_max2 (O.calm hcalm)⟩⟩
  split at h
  · rename_i q; obtain ⟨rfl, _⟩ := q; cases h
    exact ⟨_, O.tab.blt _ (by decide), many_min2, rfl, .inl ⟨_, by decide +kernel, call_min2 (O.calm hcalm)⟩⟩
  split at h
  · rename_i q; obtain ⟨rfl, _⟩ := q; cases h
    exact ⟨_, O.tab.blt _ (by decide), many_int, rfl, .inr ⟨_, by decide +kernel, call_int1⟩⟩
  split at h
  · rename_i q; obtain ⟨rfl, _⟩ := q; cases h
    have k := cr_sum (O.calm hcalm)
    rw [O.K] at k
    exact ⟨_, O.tab.blt _ (by decide), many_sum, rfl, .inl ⟨_, by decide +kernel, k⟩⟩
  · cases h

theorem any_nomark {op : CmpOp} {b : Expr} (h : isSet b = false) : behindInMarks op b = false := by
  cases b <;> first | rfl | cases h
theorem two_nomark {op op' : CmpOp} {b d : Expr} (h : isSet b = false) (h' : isSet d = false) : lastMarks [op, op'] [b, d] = false := by
  show lastMarks [op'] [d] = false
  exact any_nomark h'
/-- a comparison, as a value and as a test -/
theorem cmp_both (O : XOk S C W X c) {f : Expr → Option IE} (ih : ∀ e ie, f e = some ie → PE X e (rE S C W ie)) {a b : Expr} {op : CmpOp} {ie : IE} {pos : Pos} (h : compCmp c f a op b = some ie) :
    PE X (.Compare a [op] [b] pos) (rE S C W ie) ∧ PT X (.Compare a [op] [b] pos) (rB S C W ie) := by
  unfold compCmp at h
  split at h
  · rename_i o x y h1 h2 h3
    split at h
    · cases h
    · rename_i hs
      rw [Bool.not_eq_true] at hs
      split at h
      · rename_i he
        cases h
        simp only [Bool.and_eq_true] at he
        obtain ⟨hg, k, hr, R⟩ := O.runs he.1.2
        have ho : op = if op == .NotEq then .NotEq else .Eq := by
          cases op <;> first | rfl | exact absurd he.1.1 (by decide)
        have r1 := op_eqL (neg := op == .NotEq) O.K O.tab.base O.tab.eqs (CT := L2.CX X.prog X.w) R.r hg hr quietCT
        rw [← ho] at r1
        exact ⟨peI (pe_cmpR r1 (ih a x h2) (ih b y h3) (any_nomark hs)) fun _ _ _ q => rE_eql O.tab.base q,
          ptI (pt_cmpR r1 (ih a x h2) (ih b y h3) (any_nomark hs)) fun _ _ _ q => rE_eql O.tab.base (rB_val q)⟩
      split at h
      · rename_i he
        split at h
        · rename_i hcalm
          cases h
          simp only [Bool.and_eq_true] at he
          obtain ⟨hg, k, hr, R⟩ := O.runs hcalm
          have ho : op = if op == .NotEq then .NotEq else .Eq := by
            cases op <;> first | rfl | exact absurd he.1.1 (by decide)
          have r1 := op_ownEq (neg := op == .NotEq) O.K O.tab.base O.tab.eqs (CT := L2.CX X.prog X.w) R.r hg hr quietCT
          -- or plain data
          have r2 : OpR X (compareOp op) (fun x y H Q => ∃ F, Ex F H ∧ ∃ d e, RepA S F H d x ∧ RepA S F H e y ∧ ∃ z, opD (if (op == .NotEq) = true then .ne else .eq) [d, e] = some z ∧ Gives S F H z Q) := by
            intro pins s σ H x y v u Q I rx ry q
            obtain ⟨F, ex, d, e, hx, hy, z, hz, gv⟩ := q
            cases q2 : (op == CmpOp.NotEq) with
            | false =>
              rw [q2] at ho hz
              have ho : op = .Eq := ho
              subst ho
              obtain ⟨r, p1, p2, p3⟩ := cmp_rule O (op := .Eq) rfl
              exact p1 pins s σ H x y v u Q I rx ry (p2 F H x y d e z Q ex hx hy hz gv)
            | true =>
              rw [q2] at ho hz
              have ho : op = .NotEq := ho
              subst ho
              obtain ⟨r, p1, p2, p3⟩ := cmp_rule O (op := .NotEq) rfl
              exact p1 pins s σ H x y v u Q I rx ry (p2 F H x y d e z Q ex hx hy hz gv)
          rw [← ho] at r1
          have r3 := opR_or r1 r2
          exact ⟨peI (pe_cmpR r3 (ih a x h2) (ih b y h3) (any_nomark hs)) fun _ _ _ q => rE_eqo O.tab.base q,
            ptI (pt_cmpR r3 (ih a x h2) (ih b y h3) (any_nomark hs)) fun _ _ _ q => rE_eqo O.tab.base (rB_val q)⟩
        · cases h
      · cases h
        obtain ⟨r, r1, r2, r3⟩ := cmp_rule O h1
        exact ⟨peI (pe_cmpR r1 (ih a x h2) (ih b y h3) (any_nomark hs)) fun _ _ _ q => rE_two r3 r2 q, ptI (pt_cmpR r1 (ih a x h2) (ih b y h3) (any_nomark hs)) fun _ _ _ q => rE_two r3 r2 (rB_val q)⟩
  · cases h

/-! ### isinstance -/
theorem lookup_mem {α : Type} : ∀ {l : List (Str × α)} {x : Str} {a : α}, l.lookup x = some a → (x, a) ∈ l := fun h => PySem.mem_of_lookup h
theorem ty_rule (O : XOk S C W X c) {e : Expr} {t : Ty} (h : c.ty e = some t) : PE X e (tC (t.v S)) ∧ TyFine S t ∧ ClsV (t.v S) (t.u S) := by
  cases e with
  | Name x p =>
    have h : (if c.glb x = true then match c.t.cls.lookup x with
      | some p => some (.own p.1 p.2)
      | none => tyNames.lookup x
      else none) = some t := h
    split at h
    · rename_i q
      obtain ⟨g, pl⟩ := O.gl q
      cases hc : c.t.cls.lookup x with
      | some p =>
        rw [hc] at h
        cases h
        obtain ⟨h1, h2⟩ := O.tab.cls x p.1 p.2 hc
        exact ⟨pe_glob g h1 (show L2.RelV (V.ref _) _ from rfl) (plain_1 pl), h2, .own _⟩
      | none =>
        rw [hc] at h
        have m := lookup_mem (show tyNames.lookup x = some t from h)
        simp only [tyNames, List.mem_cons, Prod.mk.injEq, List.not_mem_nil, or_false] at m
        have go : ∀ {y : Str} {T : String}, x = y → X.mg y = none → bootBuiltins y = some (.type T) → PE X (.Name x p) (tC (.ty T)) := by
          intro y T e h1 h2
          subst e
          exact pe_bltn g h1 h2 rfl (plain_3 pl) (plain_1 pl)
        rcases m with ⟨e, rfl⟩ | ⟨e, rfl⟩ | ⟨e, rfl⟩ | ⟨e, rfl⟩ | ⟨e, rfl⟩ | ⟨e, rfl⟩
        · exact ⟨go e (O.tab.blt _ (by decide)) (by decide +kernel), trivial, .ty _⟩
        · exact ⟨go e (O.tab.blt _ (by decide)) (by decide +kernel), trivial, .ty _⟩
        · exact ⟨go e (O.tab.blt _ (by decide)) (by decide +kernel), trivial, .ty _⟩
        · exact ⟨go e (O.tab.blt _ (by decide)) (by decide +kernel), trivial, .ty _⟩
        · exact ⟨go e (O.tab.blt _ (by decide)) (by decide +kernel), trivial, .ty _⟩
        · exact ⟨go e (O.tab.blt _ (by decide)) (by decide +kernel), trivial, .ty _⟩
    · cases h
  | _ => cases h
theorem ty_star {e : Expr} {t : Ty} (h : c.ty e = some t) : ∀ y p, e ≠ .Starred y p := by
  intro y p e; subst e; cases h
theorem pe_isi (O : XOk S C W X c) {x : Str} {a t : Expr} {ia : IE} {T : Ty} {p pos : Pos} (hg : c.glb x = true) (hx : x = "isinstance") (ha : PE X a (rE S C W ia)) (hs : ∀ y p, a ≠ .Starred y p) (ht : c.ty t = some T) :
    PE X (.Call (.Name x p) [a, t] [] pos) (rE S C W (.op (.isi [T]) (.cons ia .nil))) := by
  subst hx
  obtain ⟨g, pl⟩ := O.gl hg
  obtain ⟨tr, tf, tc⟩ := ty_rule O ht
  refine peI (pe_callB call_isi g (O.tab.blt _ (by decide)) boot_isinstance (pa_cons ha (pa_cons tr pa_nil (star_no (ty_star ht))) (star_no hs)) (plain_3 pl) (plain_1 pl) (star_no hs) (by rw [back_any, star_no (ty_star ht)] <;> rfl)) fun σ H Q q => ?_
  have q2 := rE_one (r := fun x H Q => ∃ t b, TyX S.K H x t ∧ PySem.W.kitOne S.K t (T.u S) = some b ∧ Q (.bl b) H) rfl (fun F H x d z Q ex hx h gv => ?_) q
  · show rE S C W ia σ H fun x H1 => tC (T.v S) σ H1 fun y H2 => tNil σ H2 fun xs H3 => rIsi X.K (x :: y :: xs) H3 Q
    obtain ⟨μ, F, env, M, r, hM, hE, hd, hk⟩ := q2
    refine ⟨μ, F, env, M, r, hM, hE, hd, ?_⟩
    cases r with
    | ex x M1 => exact hk
    | ok v M1 =>
      intro μ1 F1 H1 w a1 m1 r1
      obtain ⟨t, b, h1, h2, h3⟩ := hk μ1 F1 H1 w a1 m1 r1
      rw [← O.K] at h1 h2
      exact ⟨w, T.v S, t, T.u S, b, rfl, tc, h1, h2, h3⟩
  · have h : (tyAny [T] d).map D.bl = some z := h
    cases q : tyAny [T] d with
    | none => rw [q] at h; cases h
    | some b =>
      rw [q] at h
      cases h
      have e : tyD T d = some b := by
        unfold tyAny at q
        cases e : tyD T d with
        | none => rw [e] at q; cases q
        | some b' =>
          rw [e] at q
          cases b' with
          | true => exact q
          | false => exact q
      obtain ⟨tv, k1, k2, -⟩ := kit_all O.tab.base.ins ex hx (ts := [T]) (by simp) (fun t ht => by rw [List.mem_singleton.mp ht]; exact tf) q
      exact ⟨tv, b, k1, k2 T List.mem_cons_self b e, gv.now ex (rep_bl (S := S) (F := F))⟩
end
end PyI

/-! PyI 9: from the text's tree: targets, what is walked, comprehensions, the whole of an expression. -/
namespace PyI
open PySem PySem.Spec PyProof.Rows L2
open Evl (Ex)
section
variable {S : Sta} {C : Orc} {W : WX} {X : Cx} {c : Ctx}

/-! ### isinstance of several types -/
theorem tyOf_up {K : PySem.W.Frag} {H H' : Hp} (e : Ex H H') {x : V} {t : Value} (h : TyOf K H x t) : TyOf K H' x t := by
  cases h with
  | non => exact .non
  | bl b => exact .bl b
  | int i => exact .int i
  | str i => exact .str i
  | flt i => exact .flt i
  | lst q => exact .lst (e _ _ q)
  | frz q => exact .frz (e _ _ q)
  | tup q => exact .tup (e _ _ q)
  | dK q => exact .dK (e _ _ q)
  | dT q => exact .dT (e _ _ q)
  | ins q a b c d f => exact .ins (e _ _ q) a b c d f
theorem tyX_up {K : PySem.W.Frag} {H H' : Hp} (e : Ex H H') {x : V} {t : Value} (h : TyX K H x t) : TyX K H' x t := by
  cases h with
  | base q => exact .base (tyOf_up e q)
  | byt b => exact .byt b
  | set q => exact .set (e _ _ q)
  | kList q c => exact .kList q c
  | kTuple q c => exact .kTuple q c
  | kDict q c => exact .kDict q c
  | fTuple q => exact .fTuple (e _ _ q)
  | fDict q => exact .fDict (e _ _ q)
def tTys (S : Sta) : List Ty → TA
  | [] => tNil
  | t :: ts => tCons (tC (t.v S)) (tTys S ts)
theorem tTys_of : ∀ {ts : List Ty} {σ : Sl} {H : Hp} {Q : List V → Hp → Prop}, Q (ts.map fun t => t.v S) H → tTys S ts σ H Q
  | [], _, _, _, q => q
  | t :: ts, σ, H, Q, q => tTys_of (ts := ts) (Q := fun xs H2 => Q (t.v S :: xs) H2) q
theorem tys_rule (O : XOk S C W X c) : ∀ {es : List Expr} {ts : List Ty}, c.tys es = some ts → PA X es (tTys S ts) ∧ (∀ t ∈ ts, TyFine S t) ∧ Paired ClsV (ts.map fun t => t.v S) (ts.map fun t => t.u S)
  | [], ts, h => by
    unfold Ctx.tys at h
    cases h
    exact ⟨pa_nil, (by intro t ht; cases ht), .nil⟩
  | e :: es, ts, h => by
    unfold Ctx.tys at h
    split at h
    · rename_i t r h1 h2
      cases h
      obtain ⟨a1, a2, a3⟩ := ty_rule O h1
      obtain ⟨b1, b2, b3⟩ := tys_rule O h2
      refine ⟨pa_cons a1 b1 (star_no (ty_star h1)), fun u hu => ?_, .cons a3 b3⟩
      rcases List.mem_cons.mp hu with rfl | hu
      · exact a2
      · exact b2 u hu
    · cases h
theorem pe_isiT (O : XOk S C W X c) {x : Str} {a : Expr} {es : List Expr} {ia : IE} {ts : List Ty} {p pos p2 : Pos} {k2 : Nat} (hg : c.glb x = true) (hx : x = "isinstance") (ha : PE X a (rE S C W ia)) (hs : ∀ y p, a ≠ .Starred y p) (ht : c.tys es = some ts) (hne : ts ≠ []) (hz : ts.length ≤ sizeLine) :
    PE X (.Call (.Name x p) [a, .Tuple es k2 p2] [] pos) (rE S C W (.op (.isi ts) (.cons ia .nil))) := by
  subst hx
  obtain ⟨g, pl⟩ := O.gl hg
  obtain ⟨tr, tf, tc⟩ := tys_rule O ht
  have ns : ∀ y p, Expr.Tuple es k2 p2 ≠ .Starred y p := fun _ _ e => by cases e
  refine peI (pe_callB call_isiT g (O.tab.blt _ (by decide)) boot_isinstance (pa_cons ha (pa_cons (pe_tup tr) pa_nil (star_no ns)) (star_no hs)) (plain_3 pl) (plain_1 pl) (star_no hs) (by rw [back_any, star_no ns] <;> rfl)) fun σ H Q q => ?_
  have q2 := rE_one (r := fun x H Q => ∀ tp, H tp = none → ∃ t b, TyX S.K (upd H tp (.tup (ts.map fun t => t.v S))) x t ∧ PySem.W.kitAny S.K t (ts.map fun t => t.u S) = some b ∧ Q (.bl b) (upd H tp (.tup (ts.map fun t => t.v S)))) rfl (fun F H x d z Q ex hx h gv tp htp => ?_) q
  · show rE S C W ia σ H fun x H1 => tTup (tTys S ts) σ H1 fun y H2 => tNil σ H2 fun xs H3 => rIsiT X.K (x :: y :: xs) H3 Q
    obtain ⟨μ, F, env, M, r, hM, hE, hd, hk⟩ := q2
    refine ⟨μ, F, env, M, r, hM, hE, hd, ?_⟩
    cases r with
    | ex x M1 => exact hk
    | ok v M1 =>
      intro μ1 F1 H1 w a1 m1 r1
      refine tTys_of ⟨by rw [List.length_map]; exact hz, fun tp htp => ?_⟩
      obtain ⟨t, b, h1, h2, h3⟩ := hk μ1 F1 H1 w a1 m1 r1 tp htp
      rw [← O.K] at h1 h2
      exact ⟨w, tp, _, t, _, b, rfl, upd_same, tc, h1, h2, h3⟩
  · have h : (tyAny ts d).map D.bl = some z := h
    cases q : tyAny ts d with
    | none => rw [q] at h; cases h
    | some b =>
      rw [q] at h
      cases h
      have gr : Grow F (upd F tp (.tup (ts.map fun t => t.v S))) H (upd H tp (.tup (ts.map fun t => t.v S))) := Grow.one ex _ htp
      obtain ⟨tv, k1, -, k2⟩ := kit_all O.tab.base.ins ex hx hne tf q
      exact ⟨tv, b, tyX_up gr.h k1, k2 b q, gv _ _ _ gr (rep_bl (S := S))⟩

/-! ### targets -/
theorem compTg_both (O : XOk S C W X c) (hcalm : c.calm = true) : ∀ n : Nat, (∀ e t, compTg c n e = some t → PG X e (rG S t)) ∧ (∀ es ts, compTgs c n es = some ts → PGs X es (rGs S ts) ∧ (assignEach es X.env).length = ts.length ∧ (assignEach es X.env).findIdx? (·.1) = none)
  | 0 => ⟨fun e t h => by simp [compTg] at h, fun es ts h => by simp [compTgs] at h⟩
  | n + 1 => by
    obtain ⟨ih1, ih2⟩ := compTg_both O hcalm n
    refine ⟨fun e t h => ?_, fun es ts h => ?_⟩
    · cases e with
      | Name x p =>
        unfold compTg at h
        split at h
        · rename_i q
          rw [Bool.and_eq_true, Bool.or_eq_true, Bool.and_eq_true] at q
          obtain ⟨q, pl⟩ := q
          cases e1 : slotOf c.N x with
          | none => rw [e1] at h; cases h
          | some i =>
            rw [e1] at h
            cases h
            have hN : X.N[i]? = some x := by rw [O.N]; exact slotOf_get e1
            rcases q with q | ⟨q1, q2⟩
            · have k : X.env.scope.names.lookup x = some .local := by rw [O.sc]; exact eq_of_beq q
              exact pg_nmI O.nd hN (.inl k) (.inr k)
            · have k : X.env.scope.names.lookup x = some .cell := by rw [O.sc]; exact eq_of_beq q2
              exact pg_nmI O.nd hN (.inr k) (.inl (O.fn q1 x))
        · cases h
      | Tuple es k p =>
        unfold compTg at h
        cases e1 : compTgs c n es with
        | none => rw [e1] at h; cases h
        | some ts =>
          rw [e1] at h
          cases h
          obtain ⟨h1, h2, h3⟩ := ih2 es ts e1
          exact pg_tpI O.K (O.calm hcalm) h1 h2 h3
      | _ => unfold compTg at h; cases h
    · cases es with
      | nil =>
        unfold compTgs at h
        cases h
        exact ⟨pgs_nilI, rfl, rfl⟩
      | cons e es =>
        unfold compTgs at h
        split at h
        · cases h
        · rename_i hs
          split at h
          · rename_i t ts h1 h2
            cases h
            obtain ⟨k1, k2, k3⟩ := ih2 es ts h2
            refine ⟨pgs_consI (ih1 e t h1) k1 (star_of hs), ?_, ?_⟩
            · rw [assign_no (star_of hs), List.length_cons, List.length_cons, k2]
            · rw [assign_no (star_of hs), List.findIdx?_cons]
              simp only [Bool.false_eq_true, if_false, k3, Option.map_none]
          · cases h

/-! ### what is walked -/
theorem compI_ok (O : XOk S C W X c) {f : Expr → Option IE} (ih : ∀ e ie, f e = some ie → PE X e (rE S C W ie)) {tg e : Expr} {it : II} (h : compI c tg f e = some it) : PI X tg e (rI S C W it) ∧ ∀ x, foldedSetIterable e X.env x = pure x := by
  have seq : ∀ e', (∀ elts k p, e' ≠ .Set elts k p) → (f e').map II.seq = some it → PI X tg e' (rI S C W it) ∧ ∀ x, foldedSetIterable e' X.env x = pure x := by
    intro e' hn h
    cases q : f e' with
    | none => rw [q] at h; cases h
    | some ie =>
      rw [q] at h
      cases h
      refine ⟨pi_seqJ O.K (ih e' ie q), fun x => ?_⟩
      cases e' <;> first | rfl | exact absurd rfl (hn _ _ _)
  unfold compI at h
  split at h
  · rename_i x p args pos
    split at h
    · rename_i hx
      subst hx
      split at h
      · rename_i hg
        rw [Bool.and_eq_true] at hg
        obtain ⟨g, pl⟩ := O.gl hg.1
        split at h
        · rename_i a
          split at h
          · cases h
          · rename_i hs
            cases q : f a with
            | none => rw [q] at h; cases h
            | some ia =>
              rw [q] at h
              cases h
              have ht := hg.2
              cases tg with
              | Tuple elts kk tpos => exact ⟨pi_enumJ O.K g (O.tab.blt _ (by decide)) (pa_consI (ih a ia q) pa_nilI (star_of hs)) (star_of hs), fun _ => rfl⟩
              | _ => cases ht
        · cases h
      · cases h
    split at h
    · rename_i hx
      subst hx
      split at h
      · rename_i hg
        rw [Bool.and_eq_true] at hg
        obtain ⟨g, pl⟩ := O.gl hg.1
        split at h
        · rename_i a b
          split at h
          · cases h
          · rename_i hs
            rw [Bool.or_eq_true, not_or] at hs
            split at h
            · rename_i ia ib h1 h2
              cases h
              have ht := hg.2
              cases tg with
              | Tuple elts kk tpos => exact ⟨pi_zipJ O.K g (O.tab.blt _ (by decide)) (pa_consI (ih a ia h1) (pa_consI (ih b ib h2) pa_nilI (star_of hs.2)) (star_of hs.1)) (star_of hs.1) (star_of hs.2), fun _ => rfl⟩
              | _ => cases ht
            · cases h
        · cases h
      · cases h
    split at h
    · rename_i hx
      subst hx
      split at h
      · rename_i hg
        obtain ⟨g, pl⟩ := O.gl hg
        split at h
        · rename_i a
          split at h
          · cases h
          · rename_i hs
            cases q : f a with
            | none => rw [q] at h; cases h
            | some ia =>
              rw [q] at h
              cases h
              exact ⟨pi_rng1J g (O.tab.blt _ (by decide)) (pa_consI (ih a ia q) pa_nilI (star_of hs)) (star_of hs), fun _ => rfl⟩
        · rename_i a b
          split at h
          · cases h
          · rename_i hs
            rw [Bool.or_eq_true, not_or] at hs
            split at h
            · rename_i ia ib h1 h2
              cases h
              exact ⟨pi_rng2J g (O.tab.blt _ (by decide)) (pa_consI (ih a ia h1) (pa_consI (ih b ib h2) pa_nilI (star_of hs.2)) (star_of hs.1)) (star_of hs.1) (star_of hs.2), fun _ => rfl⟩
            · cases h
        · cases h
      · cases h
    · exact seq _ (fun _ _ _ e => by cases e) h
  · cases h
  · rename_i hn
    exact seq e (fun a k p e => hn a k p e) h

/-! ### comprehensions -/
theorem XOk.blk (O : XOk S C W X c) (scope : Scope) (s : Shared) (H : Hp) (Ca : Addr) (cl : List (Str × Addr)) (fp : List Addr) :
    XOk S C (fun _ _ _ _ => False) (X.blk s H scope (compEnvC scope cl Ca X.env) fp) (c.blk scope) where
  K := O.K
  calm := O.calm
  nd := O.nd
  N := O.N
  sc := by
    show relS scope X.env.scope = relS scope c.sc
    rw [O.sc]
  fn := fun h => by cases h
  takes := takes0
  units := O.units
  tab := O.tab
  runs := fun h => by
    obtain ⟨hg, k, hr, R⟩ := O.runs h
    exact ⟨hg, k, hr, ⟨R.len, R.r, R.f⟩⟩
theorem compLc_ok (O : XOk S C W X c) (hcalm : c.calm = true) {n : Nat} {f g : Ctx → Expr → Option IE}
    (ihf : ∀ (X : Cx) (W : WX) (c : Ctx), XOk S C W X c → ∀ e ie, f c e = some ie → PE X e (rE S C W ie)) (ihg : ∀ (X : Cx) (W : WX) (c : Ctx), XOk S C W X c → ∀ e ie, g c e = some ie → PT X e (rB S C W ie))
    {elt tg iter : Expr} {ifs : List Expr} {scope : Scope} {ie : IE} (h : compLc c n f g elt tg iter ifs scope = some ie) :
    ∃ (t : Tg) (own : List (Str × Nat)) (it : II) (cs : IEs) (e : IE), ie = .lc t (own.map (·.2)) it cs e ∧ BlkOk X.N X.env.scope scope own ∧ (∀ i ∈ t.slots, i ∈ own.map (·.2)) ∧ PI X tg iter (rI S C W it) ∧ (∀ x, foldedSetIterable iter X.env x = pure x) ∧
      (∀ (s : Shared) (H : Hp) (Ca : Addr) (cl : List (Str × Addr)) (fp : List Addr), PG (X.blk s H scope (compEnvC scope cl Ca X.env) fp) tg (rG S t)) ∧
      (∀ (s : Shared) (H : Hp) (Ca : Addr) (cl : List (Str × Addr)) (fp : List Addr), PTs (X.blk s H scope (compEnvC scope cl Ca X.env) fp) ifs (rT S C (fun _ _ _ _ => False) cs)) ∧
      (∀ (s : Shared) (H : Hp) (Ca : Addr) (cl : List (Str × Addr)) (fp : List Addr), PE (X.blk s H scope (compEnvC scope cl Ca X.env) fp) elt (rE S C (fun _ _ _ _ => False) e)) := by
  unfold compLc at h
  split at h
  · rename_i t it e h2 h3 h4
    split at h
    · rename_i hb
      generalize ownOf c.N scope.names = own at h hb
      rw [Bool.and_eq_true, List.all_eq_true] at hb
      have bo : BlkOk X.N X.env.scope scope own := by rw [O.N, O.sc]; exact blkOk_by hb.1
      have sl : ∀ i ∈ t.slots, i ∈ own.map (·.2) := fun i hi => of_decide_eq_true (hb.2 i hi)
      obtain ⟨p1, p2⟩ := compI_ok (tg := tg) O (ihf X W c O) h3
      split at h
      · cases h
        exact ⟨t, own, it, .nil, e, rfl, bo, sl, p1, p2, fun s H Ca cl fp => (compTg_both (O.blk scope s H Ca cl fp) hcalm n).1 tg t h2, fun s H Ca cl fp => pts_nilI, fun s H Ca cl fp => ihf _ _ _ (O.blk scope s H Ca cl fp) elt e h4⟩
      · rename_i a
        cases q : g (c.blk scope) a with
        | none => rw [q] at h; cases h
        | some ia =>
          rw [q] at h
          cases h
          exact ⟨t, own, it, .cons ia .nil, e, rfl, bo, sl, p1, p2, fun s H Ca cl fp => (compTg_both (O.blk scope s H Ca cl fp) hcalm n).1 tg t h2, fun s H Ca cl fp => pts_oneI (ihg _ _ _ (O.blk scope s H Ca cl fp) a ia q),
            fun s H Ca cl fp => ihf _ _ _ (O.blk scope s H Ca cl fp) elt e h4⟩
      · cases h
    · cases h
  · cases h

/-! ### objects -/
theorem plainObj_hb {o : Expr} {m : Str} {env : PySem.Env} (h : plainObj o = true) : attributeBase o m env (eval o env) = eval o env := by
  unfold attributeBase
  split
  · rename_i id p pos
    cases h
  · rfl
theorem flags_no {f : Expr → Option IE} {env : PySem.Env} : ∀ {es : List Expr} {ies : IEs}, compEs f es = some ies → (starEach es env).all (fun p => !p.1) = true
  | [], _, _ => rfl
  | e :: es, ies, h => by
    unfold compEs at h
    split at h
    · cases h
    · rename_i hs
      rw [star_no (star_of hs)]
      split at h
      · rename_i a b h1 h2
        show (true && (starEach es env).all _) = true
        rw [flags_no h2] <;> rfl
      · cases h
theorem callsAttr_of {o : Expr} {m : Str} {apos pos : Pos} {args : List Expr} {f : Expr → Option IE} {ies : IEs} {env : PySem.Env} (hb : attributeBase o m env (eval o env) = eval o env) (he : compEs f args = some ies) (hl : (apos.endLine == pos.line) = true) (hn : args.length < 20) :
    CallsAttr o m apos pos args env (do return (← importBound o env).getD true) := by
  have few : methodCallForm (args.length + 0) (backTo pos (starEach args env)) (backToKw pos (keywordEach [] env)) = true := by
    unfold methodCallForm
    have e1 : (backTo pos (starEach args env)).all (fun p => !p.1) = true := by
      have := flags_no (env := env) he
      unfold backTo
      rw [List.all_map]
      exact this
    simp only [e1, Bool.true_and]
    show (true && decide (args.length + 0 + 0 < 30)) = true
    simp
    omega
  show (do
    let ov ← attributeBase o m env (eval o env)
    standAt apos.atName
    methodCall o m apos pos env ov (args.length + 0) (backTo pos (starEach args env)) (backToKw pos (keywordEach [] env))) = _
  rw [hb]
  unfold methodCall
  rw [few]
  have e2 : methodCallPos true o env apos pos = pure pos := by
    unfold methodCallPos
    rw [hl]
    rfl
  rw [e2]
  simp only [pure_bind]
  rfl
/-- a def with the last arguments left out, as a promise -/
theorem gor_dfl (O : XOk S C W X c) {k g : Nat} {ds : List D} (R : Runs S C X k) (h : ds = [] ∨ (DflF S g ds ∧ S.fix g = true)) : GoR X.prog X.w X.K X.mg X.base (L2.CX X.prog X.w) k (S.fa g) (spD S C g ds) := by
  rcases h with rfl | ⟨⟨hc, us, hb, hv⟩, hf⟩
  · exact (R.r g).imp fun vs H Q E h => by
      have h : spF S C g (vs ++ []) H Q E := h
      rwa [List.append_nil] at h
  · refine ((R.f g hf).raw (by rw [O.K]; exact hb) hv).imp fun vs H Q E h => ⟨?_, h⟩
    obtain ⟨μ, F, as, M, r, hM, hvs, hC, -⟩ := id h
    rw [← hvs.len]
    exact R.len g hf as M r hC
theorem dfl_cases (O : XOk S C W X c) (f n : Nat) : (∀ d ∈ c.dfl f n, isC d = true) ∧ (c.dfl f n = [] ∨ (DflF S f (c.dfl f n) ∧ S.fix f = true)) := by
  unfold Ctx.dfl
  cases h : c.t.dfls.lookup (f, n) with
  | none => exact ⟨(by intro d hd; cases hd), .inl rfl⟩
  | some ds =>
    obtain ⟨h1, h2⟩ := O.tab.dfl (f, n) ds h
    exact ⟨h1.1, .inr ⟨h1, h2⟩⟩

theorem pj_of {f : Expr → Option IE} (ih : ∀ e ie, f e = some ie → PE X e (rE S C W ie)) : ∀ {es : List Expr} {ies : IEs}, compEs f es = some ies → PJ X es (rEsL S C W ies)
  | [], ies, h => by
    unfold compEs at h
    cases h
    exact .nil
  | e :: es, ies, h => by
    unfold compEs at h
    split at h
    · cases h
    · split at h
      · rename_i a b h1 h2
        cases h
        exact .cons (ih e a h1) (pj_of ih h2)
      · cases h
theorem po_of {f : Expr → Option IE} (ih : ∀ e ie, f e = some ie → PE X e (rE S C W ie)) : ∀ {o : Option Expr} {l : Option IE}, compO f o = some l → PO X o (tPartI S C W l)
  | none, l, h => by
    cases h
    exact po_none
  | some e, l, h => by
    have h : (f e).map some = some l := h
    cases q : f e with
    | none => rw [q] at h; cases h
    | some x =>
      rw [q] at h
      cases h
      exact po_some (ih e x q)
theorem peCR {x : Str} {np pos : Pos} {e : Expr} {es : List Expr} {ies : IEs} {f : Expr → Option IE} (h : compEs f (e :: es) = some ies) : starEach (e :: es) X.env = (false, eval e X.env) :: starEach es X.env ∧ (backTo pos (starEach es X.env)).any (·.1) = false := by
  have hs : ¬ isStar e = true := by
    intro z
    unfold compEs at h
    rw [if_pos z] at h
    cases h
  have hst := compEs_star (env := X.env) h
  rw [star_no (star_of hs)] at hst
  exact ⟨star_no (star_of hs), by rw [back_any]; exact hst⟩

theorem rE_mono {e : IE} {σ : Sl} {H : Hp} {Q Q' : VK} (i : ∀ v H', Q v H' → Q' v H') (q : rE S C W e σ H Q) : rE S C W e σ H Q' := by
  obtain ⟨μ, F, env, M, r, hM, hE, hd, hk⟩ := q
  refine ⟨μ, F, env, M, r, hM, hE, hd, ?_⟩
  cases r with
  | ok v M1 => exact fun μ' F' H' w a m r => i _ _ (hk μ' F' H' w a m r)
  | ex x M1 => exact hk
theorem rA_nil {σ : Sl} {H : Hp} {Q : List V → Hp → Prop} (q : rA S C W .nil σ H Q) : Q [] H := by
  obtain ⟨μ, F, env, M, r, hM, hE, hd, hk⟩ := q
  unfold denEs at hd
  cases hd
  exact hk μ F H [] Aft.refl hM trivial
theorem gom_nil {ι : Type} {ok : ι → Prop} {Ca : ι → Addr} {m : Str} {sp : ι → Sp} {E : Sl → XK} {o : IE} {σ : Sl} {H : Hp} {Q : VK} (q : tGom ok Ca m sp E (rE S C W o) (rA S C W .nil) σ H Q) : tGom ok Ca m sp E (rE S C W o) tNil σ H Q :=
  rE_mono (fun v H' ⟨i, a, dx, fs, h1, h2, h3, h4, h5⟩ => ⟨i, a, dx, fs, h1, h2, h3, h4, rA_nil h5⟩) q
theorem gon_nil {Ca : Addr} {sp : Sp} {E : Sl → XK} {σ : Sl} {H : Hp} {Q : VK} (q : tGon Ca sp E (rA S C W .nil) σ H Q) : tGon Ca sp E tNil σ H Q :=
  rA_nil q

theorem kw_facts {env : PySem.Env} {pos : Pos} : ∀ {kws : List Keyword} {ns : List Str}, kwNames kws = some ns → (backToKw pos (keywordEach kws env)).all (·.1.isSome) = true ∧ (backToKw pos (keywordEach kws env)).filterMap (·.1) = ns ∧ (backToKw pos (keywordEach kws env)).any (·.1.isNone) = false ∧ ns.length = (kwVals kws).length
  | [], ns, h => by
    cases h
    exact ⟨rfl, rfl, rfl, rfl⟩
  | ⟨some x, e, p⟩ :: r, ns, h => by
    have h : (kwNames r).map (x :: ·) = some ns := h
    cases q : kwNames r with
    | none => rw [q] at h; cases h
    | some ns2 =>
      rw [q] at h
      cases h
      obtain ⟨h1, h2, h3, h4⟩ := kw_facts (env := env) (pos := pos) q
      refine ⟨?_, ?_, ?_, ?_⟩
      · show (true && (backToKw pos (keywordEach r env)).all _) = true
        rw [h1] <;> rfl
      · show x :: (backToKw pos (keywordEach r env)).filterMap _ = _
        rw [h2]
      · show (false || (backToKw pos (keywordEach r env)).any _) = false
        rw [h3] <;> rfl
      · show ns2.length + 1 = (kwVals r).length + 1
        rw [h4]
  | ⟨none, e, p⟩ :: r, ns, h => by cases h
theorem pk_of {f : Expr → Option IE} (ih : ∀ e ie, f e = some ie → PE X e (rE S C W ie)) : ∀ {kws : List Keyword} {ies : IEs}, compEs f (kwVals kws) = some ies → PK X kws (rA S C W ies)
  | [], ies, h => by
    cases h
    exact ⟨fun pos pins s σ H Q I q => pk_nil.run pos pins s σ H Q I (rA_nil q)⟩
  | ⟨nm, e, p⟩ :: r, ies, h => by
    have h : compEs f (e :: kwVals r) = some ies := h
    unfold compEs at h
    split at h
    · cases h
    · split at h
      · rename_i a b h1 h2
        cases h
        have k := pk_cons (nm := nm) (kpos := p) (ih e a h1) (pk_of ih h2)
        have pa : ∀ σ H Q, rA S C W (.cons a b) σ H Q → tCons (rE S C W a) (rA S C W b) σ H Q := fun σ H Q q => by
          obtain ⟨μ, F, env, M, r, hM, hE, hd, hk⟩ := q
          unfold denEs at hd
          rcases bnd_eq hd with ⟨v, M1, e1, h1⟩ | ⟨x, M1, e1, e2⟩
          · refine ⟨μ, F, env, M, _, hM, hE, e1, fun μ1 F1 H1 w a1 m1 q1 => ?_⟩
            rcases bnd_eq h1 with ⟨us, M2, e2, h2⟩ | ⟨x, M2, e2, h2⟩
            · refine ⟨μ1, F1, env, M1, _, m1, hE.aft a1, e2, fun μ2 F2 H2 ws a2 m2 q2 => ?_⟩
              have h2 := Option.some.inj h2
              subst h2
              exact hk μ2 F2 H2 (w :: ws) (a1.trans a2) m2 ⟨q1.aft a2, q2⟩
            · subst h2
              exact ⟨μ1, F1, env, M1, _, m1, hE.aft a1, e2, hk.weak a1⟩
          · subst e2
            exact ⟨μ, F, env, M, _, hM, hE, e1, hk⟩
        exact ⟨fun pos pins s σ H Q I q => k.run pos pins s σ H Q I (pa σ H Q q)⟩
      · cases h
theorem es_len {f : Expr → Option IE} {env : Env} : ∀ {es : List Expr} {ies : IEs} {M M1 : Mem} {vs : List Val}, compEs f es = some ies → denEs C ies env M = some (.ok vs M1) → vs.length = es.length
  | [], ies, M, M1, vs, h, d => by
    unfold compEs at h
    cases h
    unfold denEs at d
    cases d
    rfl
  | e :: es, ies, M, M1, vs, h, d => by
    unfold compEs at h
    split at h
    · cases h
    · split at h
      · rename_i a b h1 h2
        cases h
        unfold denEs at d
        rcases bnd_eq d with ⟨v, M2, d1, d2⟩ | ⟨x, M2, d1, d2⟩
        · rcases bnd_eq d2 with ⟨ws, M3, d3, d4⟩ | ⟨x, M3, d3, d4⟩
          · cases d4
            rw [List.length_cons, List.length_cons, es_len h2 d3]
          · cases d4
        · cases d2
      · cases h
theorem mth_case (O : XOk S C W X c) (hcalm : c.calm = true) {f : Expr → Option IE} (ih : ∀ e ie, f e = some ie → PE X e (rE S C W ie)) {o : Expr} {m : Str} {apos pos : Pos} {args : List Expr} {tbl : List (Nat × Nat)} {io : IE} {ies : IEs} (hp : plainObj o = true) (hline : (apos.endLine == pos.line) = true)
    (hlen : args.length < 20) (h1 : c.t.mths.lookup m = some tbl) (h2 : f o = some io) (h3 : compEs f args = some ies) : PE X (.Call (.Attribute o m apos) args [] pos) (rE S C W (mthIE c tbl args.length io ies)) := by
            obtain ⟨hg, kk, hr, R⟩ := O.runs hcalm
            have mf := O.tab.mths m tbl h1
            have hb := plainObj_hb (m := m) (env := X.env) hp
            have go : ∀ ds : List D, (∀ d ∈ ds, isC d = true) → (∀ i, okT S tbl i → ds = [] ∨ (DflF S i.2 ds ∧ S.fix i.2 = true)) → PE X (.Call (.Attribute o m apos) args [] pos) (rE S C W (.mth tbl (.dfl ds) io ies)) := by
              intro ds hds hdf
              have rule : ∀ i, okT S tbl i → Cls X.K (S.ca i.1) ∧ Meth X.K (S.ca i.1) m (S.fa i.2) ∧ GoR X.prog X.w X.K X.mg X.base (L2.CX X.prog X.w) kk (S.fa i.2) (spD S C i.2 ds) := by
                intro i oi
                have hI := (O.tab.base.ins i.1 oi.2).cl
                have hM := mf.at_ i.1 i.2 oi.1 oi.2
                rw [← O.K] at hI hM
                exact ⟨hI, hM, gor_dfl O R (hdf i oi)⟩
              cases args with
              | nil =>
                have h3 : some IEs.nil = some ies := h3
                cases h3
                exact peI (pe_gom0 (E := WE W) (ih o io h2) rule hg (hr.mono (Nat.le_succ kk)) (fun σ => passAt O.takes σ) (callsAttr_of hb (f := f) (ies := .nil) rfl hline hlen)) fun _ _ _ q => gom_nil (rE_mth O.tab.base mf hds q)
              | cons e es =>
                obtain ⟨s1, s2⟩ := peCR (X := X) (x := m) (np := pos) (pos := pos) h3
                exact peI (pe_gom (E := WE W) (ih o io h2) rule hg (hr.mono (Nat.le_succ kk)) (fun σ => passAt O.takes σ) (compEs_ok ih h3) s1 s2 (callsAttr_of hb h3 hline hlen)) fun _ _ _ q => rE_mth O.tab.base mf hds q
            unfold mthIE
            split
            · rename_i g0
              obtain ⟨d1, d2⟩ := dfl_cases O g0 (args.length + 1)
              refine go _ d1 fun i oi => ?_
              have e := oi.1
              rw [List.lookup_cons] at e
              split at e
              · cases e
                exact d2
              · cases e
            · exact go [] (fun d hd => by cases hd) fun _ _ => .inl rfl

/-! ### the whole -/
theorem compE_both (n : Nat) : (∀ (X : Cx) (W : WX) (c : Ctx), XOk S C W X c → ∀ e ie, compE n c e = some ie → PE X e (rE S C W ie)) ∧ (∀ (X : Cx) (W : WX) (c : Ctx), XOk S C W X c → ∀ e ie, compT n c e = some ie → PT X e (rB S C W ie)) := by
  induction n with
  | zero => exact ⟨fun X W c O e ie h => by simp [compE] at h, fun X W c O e ie h => by simp [compT] at h⟩
  | succ n ih =>
    obtain ⟨ihE, ihT⟩ := ih
    have E : ∀ (X : Cx) (W : WX) (c : Ctx), XOk S C W X c → ∀ e ie, compE (n + 1) c e = some ie → PE X e (rE S C W ie) := by
      intro X W c O e ie h
      unfold compE at h
      split at h
      · cases h; exact peI pe_int fun _ _ _ q => rE_cst (fun F => rep_int (S := S) (F := F)) q
      · cases h; exact peI pe_bl fun _ _ _ q => rE_cst (fun F => rep_bl (S := S) (F := F)) q
      · cases h; exact peI pe_non fun _ _ _ q => rE_cst (fun F => rep_non (S := S) (F := F)) q
      · cases h; exact peI pe_str fun _ _ _ q => rE_cst (fun F => rep_str (S := S) (F := F)) q
      · rename_i x p
        split at h
        · rename_i hgl
          obtain ⟨g, pl⟩ := O.gl hgl
          cases q : c.t.glbs.lookup x with
          | none => rw [q] at h; cases h
          | some d =>
            rw [q] at h
            cases h
            obtain ⟨v, u, hm, r, hr⟩ := O.tab.glbs x d q
            exact peI (pe_glob g hm r (plain_1 pl)) fun σ H Q q => rE_cst hr q
        cases q : c.var x with
        | none => rw [q] at h; cases h
        | some i =>
          rw [q] at h
          cases h
          obtain ⟨h1, h2, h3⟩ := O.seen q
          exact pe_varI h1 h2 (plain_1 h3) (plain_2 h3)
      · rename_i a op b p
        split at h
        · rename_i o x y h1 h2 h3
          cases h
          obtain ⟨r, r1, r2, r3⟩ := bin_rule O h1
          exact peI (pe_op r1 (ihE X W c O a x h2) (ihE X W c O b y h3)) fun _ _ _ q => rE_two r3 r2 q
        · cases h
      · rename_i a p
        cases q : compE n c a with
        | none => rw [q] at h; cases h
        | some x =>
          rw [q] at h
          cases h
          exact peI (pe_un un_neg (ihE X W c O a x q)) fun _ _ _ q => rE_one rfl one_neg q
      · rename_i a p
        cases q : compE n c a with
        | none => rw [q] at h; cases h
        | some x =>
          rw [q] at h
          cases h
          exact peI (pe_not (ihE X W c O a x q)) fun _ _ _ q => rE_not q
      · rename_i a op b p
        exact (cmp_both O (ihE X W c O) h).1
      · rename_i a op op' b d p
        split at h
        · cases h
        · rename_i hs
          rw [Bool.or_eq_true, not_or, Bool.not_eq_true, Bool.not_eq_true] at hs
          split at h
          · rename_i o o' x y z h1 h2 h3 h4 h5
            cases h
            obtain ⟨r, r1, r2, r3⟩ := cmp_rule O h1
            obtain ⟨r', r1', r2', r3'⟩ := cmp_rule O h2
            exact peI (pe_chain r1 r1' (ihE X W c O a x h3) (ihE X W c O b y h4) (ihE X W c O d z h5) (two_nomark hs.1 hs.2)) fun _ _ _ q => rE_chain r3 r3' r2 r2' q
          · cases h
      · rename_i v p
        split at h
        · rename_i e k p2
          split at h
          · rename_i hk
            rw [Bool.and_eq_true] at hk
            obtain ⟨hg, kk, hr, R⟩ := O.runs hk.2
            cases q : compE n c e with
            | none => rw [q] at h; cases h
            | some x =>
              rw [q] at h
              cases h
              rw [show k = -1 from eq_of_beq hk.1]
              exact pe_joined1 (peI (pe_fmtO hg hr (ihE X W c O e x q)) fun _ _ _ q => by rw [O.K]; exact rE_one rfl one_fmt q)
          · cases h
        · cases h
      · rename_i v1 v2 rest p
        split at h
        · cases q : compEs (compE n c) (v1 :: v2 :: rest) with
          | none => rw [q] at h; cases h
          | some ies =>
            rw [q] at h
            cases h
            exact peI (pe_joined (pj_of (ihE X W c O) q)) fun _ _ _ q => rE_fstr q
        · cases h
      · rename_i e k p
        split at h
        · rename_i hk
          rw [Bool.and_eq_true] at hk
          obtain ⟨hg, kk, hr, R⟩ := O.runs hk.2
          cases q : compE n c e with
          | none => rw [q] at h; cases h
          | some x =>
            rw [q] at h
            cases h
            rw [show k = -1 from eq_of_beq hk.1]
            exact peI (pe_fmtO hg hr (ihE X W c O e x q)) fun _ _ _ q => by rw [O.K]; exact rE_one rfl one_fmt q
        · cases h
      · rename_i e f p
        split at h
        · rename_i hp
          split at h
          · rename_i pp x h1 h2
            cases h
            obtain ⟨ff, na⟩ := O.tab.flds f pp.1 pp.2 h1
            exact peI (pe_fld (ihE X W c O e x h2) (plainObj_hb hp)) fun _ _ _ q => by rw [O.K]; exact rE_fld O.tab.base ff q
          · rename_i x h1 h2
            split at h
            · rename_i hcalm
              cases q : c.t.props.lookup f with
              | none => rw [q] at h; cases h
              | some tbl =>
                rw [q] at h
                cases h
                obtain ⟨hg, kk, hr, R⟩ := O.runs hcalm
                refine peI (pe_gop (CT := L2.CX X.prog X.w) (f := fun i => S.fa i.2) (ihE X W c O e x h2) (fun i oi => ?_) hg hr quietCT (plainObj_hb hp)) fun _ _ _ q => rE_prop O.tab.base q
                have hI := (O.tab.base.ins i.1 oi.2).cl
                have hP := O.tab.props f tbl q i.1 i.2 oi.1 oi.2
                rw [← O.K] at hI hP
                exact ⟨hI, hP, R.r i.2⟩
            · cases h
          · split at h
            · rename_i x px _
              split at h
              · rename_i hgl
                obtain ⟨g, pl⟩ := O.gl hgl
                cases q : c.t.cons.lookup (x, f) with
                | none => rw [q] at h; cases h
                | some d =>
                  rw [q] at h
                  cases h
                  obtain ⟨hc, Ca, mc, u, hm, cr, cv⟩ := O.tab.cons x f d q
                  refine peI (ClX.pe_cval (pe_glob g hm (show L2.RelV (V.ref Ca) _ from rfl) (plain_1 pl)) (plainObj_hb hp)) fun σ H Q q => ⟨Ca, mc, toV d, u, rfl, by rw [O.K]; exact cr, by rw [O.K]; exact cv, ?_⟩
                  exact rE_cst (fun F => rep_toV hc) q
              · cases h
            · cases h
        · cases h
      · rename_i x np m apos args pos
        split at h
        · rename_i hgl
          obtain ⟨g, pl⟩ := O.gl hgl
          split at h
          · rename_i hc
            simp only [Bool.and_eq_true, decide_eq_true_eq] at hc
            obtain ⟨⟨hcalm, hline⟩, hlen⟩ := hc
            split at h
            · rename_i p ies h1 h2
              cases h
              obtain ⟨hgd, kk, hr, R⟩ := O.runs hcalm
              have hr := hr.mono (Nat.le_succ kk)
              obtain ⟨hc, hm, mc, pp, cr, cm⟩ := O.tab.cmts x m p.1 p.2 h1
              rw [← O.K] at cr cm
              have F := R.r p.2
              have hv : ∀ F : Hp, RepD S F (.cls p.1) (V.ref (S.ca p.1)) := fun F => by
                simp only [RepD]
                exact ⟨hc, trivial⟩
              cases args with
              | nil =>
                cases h2
                exact peI (pe_gocm0 (E := WE W) F hgd hr g hm cr cm (fun σ => passAt O.takes σ) (plain_1 pl) (callsAttr_of rfl (f := compE n c) (ies := .nil) rfl hline hlen)) fun _ _ _ q => rA_nil (rA_cst hv (rE_call q))
              | cons e es =>
                obtain ⟨s1, s2⟩ := peCR (X := X) (x := m) (np := pos) (pos := pos) h2
                exact peI (pe_gocm (E := WE W) F hgd hr g hm cr cm (fun σ => passAt O.takes σ) (compEs_ok (ihE X W c O) h2) (plain_1 pl) s1 s2 (callsAttr_of rfl h2 hline hlen)) fun _ _ _ q => rA_cst hv (rE_call q)
            · rename_i ies h1 h2
              split at h
              · cases h
              · rename_i e es
                cases hsm : c.t.smts.lookup (x, m) with
                | none => rw [hsm] at h; cases h
                | some p =>
                  rw [hsm] at h
                  cases h
                  obtain ⟨hgd, kk, hr, R⟩ := O.runs hcalm
                  have hr := hr.mono (Nat.le_succ kk)
                  obtain ⟨hc, hm, mc, pp, cr, cm⟩ := O.tab.smts x m p.1 p.2 hsm
                  rw [← O.K] at cr cm
                  have F := R.r p.2
                  obtain ⟨s1, s2⟩ := peCR (X := X) (x := m) (np := pos) (pos := pos) h2
                  exact peI (pe_gosm (E := WE W) F hgd hr g hm cr cm (fun σ => passAt O.takes σ) (compEs_ok (ihE X W c O) h2) (plain_1 pl) s1 s2 (callsAttr_of rfl h2 hline hlen)) fun _ _ _ q => rE_call q
            · cases h
          · cases h
        · split at h
          · rename_i hc
            simp only [Bool.and_eq_true, decide_eq_true_eq] at hc
            obtain ⟨⟨hcalm, hline⟩, hlen⟩ := hc
            split at h
            · rename_i tbl io ies h1 h2 h3
              cases h
              exact mth_case O hcalm (ihE X W c O) rfl hline hlen h1 h2 h3
            · cases h
          · cases h
      · rename_i o m apos args pos _
        split at h
        · rename_i hc
          simp only [Bool.and_eq_true, decide_eq_true_eq] at hc
          obtain ⟨⟨⟨hp, hcalm⟩, hline⟩, hlen⟩ := hc
          split at h
          · rename_i tbl io ies h1 h2 h3
            cases h
            exact mth_case O hcalm (ihE X W c O) hp hline hlen h1 h2 h3
          · cases h
        · cases h
      · exact compBool_ok (ihE X W c O) h
      · rename_i t a b p
        split at h
        · rename_i it x y h1 h2 h3
          cases h
          exact peI (pe_ifExp (ihT X W c O t it h1) (ihE X W c O a x h2) (ihE X W c O b y h3)) fun _ _ _ q => rE_ife q
        · cases h
      · rename_i es k p
        cases q : compEs (compE n c) es with
        | none => rw [q] at h; cases h
        | some ies =>
          rw [q] at h
          cases h
          exact peI (pe_tup (compEs_ok (ihE X W c O) q)) fun _ _ _ q => rE_tup q
      · rename_i es p
        cases q : compEs (compE n c) es with
        | none => rw [q] at h; cases h
        | some ies =>
          rw [q] at h
          cases h
          exact peI (pe_lst (compEs_ok (ihE X W c O) q)) fun _ _ _ q => rE_lst q
      · cases h
        exact peI pe_dnewK fun _ _ _ q => rE_emp q
      · rename_i a lo hi p2 p
        split at h
        · rename_i x l u h1 h2 h3
          cases h
          exact peI (pe_slice (sl_list.or sl_tupA) (ihE X W c O a x h1) (po_of (ihE X W c O) h2) (po_of (ihE X W c O) h3)) fun _ _ _ q => by rw [O.K]; exact rE_slice q
        · cases h
      · rename_i a k p1 p2 p3 p
        cases q : compE n c a with
        | none => rw [q] at h; cases h
        | some x =>
          rw [q] at h
          cases h
          exact peI (pe_revL (ihE X W c O a x q)) fun _ _ _ q => by rw [O.K]; exact rE_rev q
      · rename_i a i p _ _
        split at h
        · cases h
        · rename_i hs
          split at h
          · rename_i x y h1 h2
            cases h
            refine peI (pe_ix (r := fun x y H Q => rIxL X.K x y H Q ∨ rIxT X.K x y H Q) (ix_list.or ix_tup) (ihE X W c O a x h1) (ihE X W c O i y h2) fun o j => ?_) fun _ _ _ q => rE_two rfl (by rw [O.K]; exact two_ix) q
            cases i <;> first | rfl | exact absurd rfl hs
          · cases h
      · rename_i x p args pos
        split at h
        · rename_i hg
          obtain ⟨g, pl⟩ := O.gl hg
          split at h
          · rename_i f hf
            split at h
            · rename_i hcalm
              obtain ⟨hgd, kk, hr, R⟩ := O.runs hcalm
              have hr := hr.mono (Nat.le_succ kk)
              obtain ⟨f1, f2⟩ := O.tab.fns x f hf
              rw [← O.K] at f2
              split at h
              · rename_i ds hd
                obtain ⟨d1, d2⟩ := O.tab.dfl (f, args.length) ds hd
                have F := gor_dfl O R (.inr ⟨d1, d2⟩)
                cases args with
                | nil =>
                  cases h
                  refine peI (pe_go0 (E := WE W) F hgd hr g f1 f2 (fun σ => passAt O.takes σ) (plain_1 pl)) fun σ H Q q => ?_
                  obtain ⟨μ, F, env, M, r, hM, hE, hd, hk⟩ := rE_callp d1.1 q
                  unfold denEs at hd
                  cases hd
                  exact hk μ F H [] Aft.refl hM trivial
                | cons e es =>
                  cases q : compEs (compE n c) (e :: es) with
                  | none => rw [q] at h; cases h
                  | some ies =>
                    rw [q] at h
                    cases h
                    obtain ⟨s1, s2⟩ := peCR (X := X) (x := x) (np := pos) (pos := pos) q
                    exact peI (pe_go (E := WE W) F hgd hr g f1 f2 (fun σ => passAt O.takes σ) (compEs_ok (ihE X W c O) q) (plain_1 pl) s1 s2) fun σ H Q q => rE_callp d1.1 q
              · have F := R.r f
                cases args with
                | nil =>
                  cases h
                  refine peI (pe_go0 (E := WE W) F hgd hr g f1 f2 (fun σ => passAt O.takes σ) (plain_1 pl)) fun σ H Q q => ?_
                  obtain ⟨μ, F, env, M, r, hM, hE, hd, hk⟩ := rE_call q
                  unfold denEs at hd
                  cases hd
                  exact hk μ F H [] Aft.refl hM trivial
                | cons e es =>
                  cases q : compEs (compE n c) (e :: es) with
                  | none => rw [q] at h; cases h
                  | some ies =>
                    rw [q] at h
                    cases h
                    obtain ⟨s1, s2⟩ := peCR (X := X) (x := x) (np := pos) (pos := pos) q
                    exact peI (pe_go (E := WE W) F hgd hr g f1 f2 (fun σ => passAt O.takes σ) (compEs_ok (ihE X W c O) q) (plain_1 pl) s1 s2) fun σ H Q q => rE_call q
            · cases h
          · split at h
            · rename_i pn hn
              split at h
              · rename_i hcalm
                obtain ⟨hgd, kk, hr, R⟩ := O.runs hcalm
                obtain ⟨hc, f1, mk, fl⟩ := O.tab.news x pn.1 pn.2.1 pn.2.2 hn
                rw [← O.K] at mk
                obtain ⟨d1, d2⟩ := dfl_cases O pn.2.1 (args.length + 1)
                have F := gor_dfl O R d2
                cases args with
                | nil =>
                  cases h
                  refine peI (pe_gon0 (E := WE W) mk F hgd hr g f1 (fun σ => passAt O.takes σ) (plain_1 pl)) fun σ H Q q => ?_
                  exact gon_nil (rE_new hc fl d1 q)
                | cons e es =>
                  cases q : compEs (compE n c) (e :: es) with
                  | none => rw [q] at h; cases h
                  | some ies =>
                    rw [q] at h
                    cases h
                    obtain ⟨s1, s2⟩ := peCR (X := X) (x := x) (np := pos) (pos := pos) q
                    exact peI (pe_gon (E := WE W) mk F hgd hr g f1 (fun σ => passAt O.takes σ) (compEs_ok (ihE X W c O) q) (plain_1 pl) s1 s2) fun σ H Q q => rE_new hc fl d1 q
              · cases h
            · split at h
              · rename_i hx
                split at h
                · rename_i a
                  split at h
                  · cases h
                  · rename_i hs
                    rw [Bool.or_eq_true, not_or] at hs
                    have hcalm : c.calm = true := by
                      cases q : c.calm with
                      | true => rfl
                      | false => exact absurd (by rw [q]; rfl) hs.2
                    obtain ⟨hgd, kk, hr, R⟩ := O.runs hcalm
                    cases q : compE n c a with
                    | none => rw [q] at h; cases h
                    | some ia =>
                      rw [q] at h
                      cases h
                      subst hx
                      exact peI (pe_callB (call_repr O.K O.tab.base O.tab.reprs R.r hgd hr quietCT) g (O.tab.blt _ (by decide)) boot_repr (pa_cons (ihE X W c O a ia q) pa_nil (star_no (star_of hs.1))) (plain_3 pl) (plain_1 pl) (star_no (star_of hs.1)) (by rfl)) fun _ _ _ q => rE_rpr O.tab.base q
                · cases h
              · split at h
                · rename_i hx
                  split at h
                  · rename_i a ts k2 p2
                    split at h
                    · cases h
                    · rename_i hs
                      split at h
                      · rename_i ia l h1 h2
                        split at h
                        · rename_i hl
                          cases h
                          exact pe_isiT O hg hx (ihE X W c O a ia h1) (star_of hs) h2 hl.1 (Evl.sz_of (Nat.le_trans hl.2 (by decide)))
                        · cases h
                      · cases h
                  · rename_i a t hn
                    split at h
                    · cases h
                    · rename_i hs
                      split at h
                      · rename_i ia t' h1 h2
                        cases h
                        exact pe_isi O hg hx (ihE X W c O a ia h1) (star_of hs) h2
                      · cases h
                  · cases h
                · split at h
                  · rename_i e es o ho
                    split at h
                    rotate_left
                    · cases h
                    rename_i hcalm
                    cases q : compEs (compE n c) (e :: es) with
                    | none => rw [q] at h; cases h
                    | some ies =>
                      rw [q] at h
                      cases h
                      have hs : ¬ isStar e = true := by
                        intro z
                        unfold compEs at q
                        rw [if_pos z] at q
                        cases q
                      have hst := compEs_star (env := X.env) q
                      rw [star_no (star_of hs)] at hst
                      obtain ⟨r, r1, r2, r3, r4⟩ := blt_rule O hcalm ho
                      have pa := compEs_ok (ihE X W c O) q
                      rcases r4 with ⟨id, b1, b2⟩ | ⟨T, b1, b2⟩
                      · exact peI (pe_callB b2 g r1 b1 pa (plain_3 pl) (plain_1 pl) (star_no (star_of hs)) (by rw [back_any]; exact hst)) fun _ _ _ q => rE_many r3 r2 q
                      · exact peI (pe_callTy b2 g r1 b1 pa (plain_3 pl) (plain_1 pl) (star_no (star_of hs)) (by rw [back_any]; exact hst)) fun _ _ _ q => rE_many r3 r2 q
                  · cases h
        · split at h
          · rename_i i pn e es hi hv
            split at h
            · rename_i hcalm
              obtain ⟨hgd, kk, hr, R⟩ := O.runs hcalm
              obtain ⟨hc, mk, fl⟩ := O.tab.clsv x pn.1 pn.2.1 pn.2.2 hv
              rw [← O.K] at mk
              obtain ⟨d1, d2⟩ := dfl_cases O pn.2.1 ((e :: es).length + 1)
              have F := gor_dfl O R d2
              obtain ⟨v1, v2, v3⟩ := O.seen hi
              cases q : compEs (compE n c) (e :: es) with
              | none => rw [q] at h; cases h
              | some ies =>
                rw [q] at h
                cases h
                obtain ⟨s1, s2⟩ := peCR (X := X) (x := x) (np := pos) (pos := pos) q
                exact peI (pe_gonv (E := WE W) mk F hgd hr v1 v2 (fun σ => passAt O.takes σ) (compEs_ok (ihE X W c O) q) (plain_1 v3) (plain_2 v3) s1 s2) fun σ H Q q => rE_newv hc fl d1 q
            · cases h
          · cases h
      · rename_i x np a₀ args kw kws pos
        split at h
        · rename_i hq
          rw [Bool.and_eq_true] at hq
          obtain ⟨g, pl⟩ := O.gl hq.1
          split at h
          · rename_i pn ns hn hns
            split at h
            · rename_i q ia ik hk ha hkk
              cases h
              obtain ⟨hgd, kk, hr, R⟩ := O.runs hq.2
              obtain ⟨hc, f1, mk, fl⟩ := O.tab.news x pn.1 pn.2.1 pn.2.2 hn
              obtain ⟨hf, hqc, gU, kb⟩ := O.tab.kwd pn.2.1 (args.length + 2) ns q hk
              rw [← O.K] at mk kb
              obtain ⟨k1, k2, k3, k4⟩ := kw_facts (env := X.env) (pos := pos) hns
              obtain ⟨s1, s2⟩ := peCR (X := X) (x := x) (np := pos) (pos := pos) ha
              have F : GoF X.prog X.w X.K X.mg X.base (L2.CX X.prog X.w) kk (S.fa pn.2.1) (S.fd pn.2.1) (S.ps pn.2.1) (spF S C pn.2.1) := (R.f pn.2.1 hf).imp fun vs H Q E h => ⟨by
                obtain ⟨μ, F, as, M, r, hM, hvs, hC, -⟩ := id h
                rw [← hvs.len]
                exact R.len pn.2.1 hf as M r hC, h⟩
              have hpl : ((backTo pos (starEach (a₀ :: args) X.env)).any (·.1) || (backToKw pos (keywordEach (kw :: kws) X.env)).any (·.1.isNone)) = false := by
                rw [k3, back_any, compEs_star ha]
                rfl
              refine peI (pe_gonK (E := WE W) (n := args.length + 1) mk F hgd hr kb g f1 (fun σ => passAt O.takes σ) (compEs_ok (ihE X W c O) ha) (pk_of (ihE X W c O) hkk) k1 k2 (plain_1 pl) s1 hpl) fun σ H Q z => ?_
              exact rE_newK hc fl hqc (fun d => es_len ha d) (fun d => by rw [es_len hkk d, ← k4]) z
            · cases h
          · cases h
        · cases h
      · rename_i elt tg iter ifs scope p
        split at h
        rotate_left
        · cases h
        rename_i hcalm
        obtain ⟨t, own, it, cs, e, rfl, bo, sl, p1, p2, p3, p4, p5⟩ := compLc_ok O hcalm ihE ihT h
        exact peI (pe_lc (O.calm hcalm) O.nd p1 bo p3 p4 p5 p2) fun _ _ _ q => rE_lc sl q
      · cases h
    refine ⟨E, fun X W c O e ie h => ?_⟩
    unfold compT at h
    split at h
    · rename_i a p
      cases q : compT n c a with
      | none => rw [q] at h; cases h
      | some x =>
        rw [q] at h
        cases h
        exact ptI (pt_not (ihT X W c O a x q)) fun _ _ _ q => rB_not q
    · exact (compBool_okT (ihT X W c O) h).pt
    · cases h
    · rename_i a op b p
      exact (cmp_both O (ihE X W c O) h).2
    · rename_i a op op' b d p
      split at h
      · cases h
      · rename_i hs
        rw [Bool.or_eq_true, not_or, Bool.not_eq_true, Bool.not_eq_true] at hs
        split at h
        · rename_i o o' x y z h1 h2 h3 h4 h5
          cases h
          obtain ⟨r, r1, r2, r3⟩ := cmp_rule O h1
          obtain ⟨r', r1', r2', r3'⟩ := cmp_rule O h2
          exact ptI (pt_chain r1 r1' (ihE X W c O a x h3) (ihE X W c O b y h4) (ihE X W c O d z h5) (two_nomark hs.1 hs.2)) fun _ _ _ q => rE_chain r3 r3' r2 r2' (rB_val q)
        · cases h
    · cases h
    · rename_i h0 h1 h2 h3' h3 h5
      refine pt_valI (ihE X W c O e ie h) fun whole => ?_
      cases e with
      | UnaryOp op a p => cases op <;> first | exact absurd rfl (h0 _ _) | rfl
      | BoolOp op a p => exact absurd rfl (h1 _ _ _)
      | IfExp a b d p => exact absurd rfl (h2 _ _ _ _)
      | Compare a b d p => exact absurd rfl (h5 _ _ _ _)
      | _ => rfl
end
end PyI

namespace PyI
open PySem PySem.Spec PyProof.Rows L2
theorem swap_no {es : List Expr} {k : Nat} {tp : Pos} {e : Expr} {env : PySem.Env} (h : ∀ vs k p, e ≠ .Tuple vs k p) : swappedStores [.Tuple es k tp] e env = pure none := by
  unfold swappedStores
  cases e <;> first | rfl | exact absurd rfl (h _ _ _)
theorem swap_len {es vs : List Expr} {k k2 : Nat} {tp p2 : Pos} {env : PySem.Env} (h : (es.length == 2 || es.length == 3) = false) : swappedStores [.Tuple es k tp] (.Tuple vs k2 p2) env = pure none := by
  unfold swappedStores
  simp only [h, Bool.not_false, Bool.true_or, if_true]
theorem no_star (a : Expr) (h : (match a with | Expr.Starred .. => true | _ => false) = true) : isStar a = true := by
  cases a <;> first | rfl | (cases h)
theorem swap2 {x y : Str} {px py pt p2 : Pos} {kt k2 : Nat} {a b : Expr} {env : PySem.Env} (hk : env.scope.kind = .function) (hx : env.kindOf x = some .local) (hy : env.kindOf y = some .local) (hl : (py.line == px.line) = true) (hne : x ≠ y)
    (hs : isStar a = false) (hs2 : isStar b = false) (hf : [a, b].all (foldedForSure 8) = false) (hc : [a, b].all (constantsAlone 8) = false) :
    swappedStores [.Tuple [.Name x px, .Name y py] kt pt] (.Tuple [a, b] k2 p2) env = pure (some [x, y]) := by
  have hb : env.blockKind = .function := by unfold Env.blockKind; rw [hk]; rfl
  have he : ([x, y] : List Str).eraseDups.length = 2 := by
    simp [List.eraseDups_cons, hne, Ne.symm hne]
  unfold swappedStores
  simp only [hb, List.filterMap_cons, List.filterMap_nil, hx, hy, hl, List.head?_cons, Option.map_some, Option.getD_some, Expr.pos, List.length_cons, List.length_nil, hf, hc]
  simp
  rw [if_neg, if_pos he]
  rintro (h | h)
  · rw [no_star _ h] at hs; cases hs
  · rw [no_star _ h] at hs2; cases hs2
theorem swap2c {x y : Str} {px py pt p2 : Pos} {kt k2 : Nat} {a b : Expr} {env : PySem.Env} (hf : [a, b].all (foldedForSure 8) = true) (hs : isStar a = false) (hs2 : isStar b = false) :
    swappedStores [.Tuple [.Name x px, .Name y py] kt pt] (.Tuple [a, b] k2 p2) env = pure none := by
  unfold swappedStores
  simp only [List.head?_cons, Option.map_some, Option.getD_some, Expr.pos, List.length_cons, List.length_nil, hf]
  simp
theorem swap3 {x y z : Str} {px py pz pt p2 : Pos} {kt k2 : Nat} {a b c : Expr} {env : PySem.Env} (hk : env.scope.kind = .function) (hx : env.kindOf x = some .local) (hy : env.kindOf y = some .local) (hz : env.kindOf z = some .local) (hl : (py.line == px.line) = true) (hl2 : (pz.line == px.line) = true)
    (hne : x ≠ y) (hne2 : x ≠ z) (hne3 : y ≠ z) (hs : isStar a = false) (hs2 : isStar b = false) (hs3 : isStar c = false) (hf : [a, b, c].all (foldedForSure 8) = false) (hc : [a, b, c].all (constantsAlone 8) = false) :
    swappedStores [.Tuple [.Name x px, .Name y py, .Name z pz] kt pt] (.Tuple [a, b, c] k2 p2) env = pure (some [x, y, z]) := by
  have hb : env.blockKind = .function := by unfold Env.blockKind; rw [hk]; rfl
  have he : ([x, y, z] : List Str).eraseDups.length = 3 := by
    simp [List.eraseDups_cons, hne, Ne.symm hne, hne2, Ne.symm hne2, hne3, Ne.symm hne3]
  unfold swappedStores
  simp only [hb, List.filterMap_cons, List.filterMap_nil, hx, hy, hz, hl, hl2, List.head?_cons, Option.map_some, Option.getD_some, Expr.pos, List.length_cons, List.length_nil, hf, hc]
  simp
  rw [if_neg, if_pos he]
  rintro (h | h | h)
  · rw [no_star _ h] at hs; cases hs
  · rw [no_star _ h] at hs2; cases hs2
  · rw [no_star _ h] at hs3; cases hs3
def offNames (sc : Scope) (ts : List Expr) : List Str := ts.filterMap fun
    | .Name id pos => if sc.names.lookup id == some .local && pos.line == (ts.head?.map (·.pos.line)).getD 0 then some id else none
    | _ => none
def offSwap (sc : Scope) (ts : List Expr) : Bool := (offNames sc ts).length != ts.length
theorem swap_off {ts : List Expr} {k : Nat} {tp : Pos} {e : Expr} {env : PySem.Env} (h : offSwap env.scope ts = true) : swappedStores [.Tuple ts k tp] e env = pure none := by
  unfold swappedStores
  cases e with
  | Tuple vs k2 p2 =>
    dsimp only
    split
    · rfl
    split
    · rfl
    exact if_pos (by rw [Bool.or_eq_true]; exact .inl h)
  | _ => rfl
end PyI

/-! PyI 10: from the text's tree: statements. -/
namespace PyI
open PySem PySem.Spec PyProof.Rows L2
open Evl (Ex)

def isList : Expr → Bool
  | .List .. => true
  | _ => false
def isTuple : Expr → Bool
  | .Tuple .. => true
  | _ => false
def isFun (sc : Scope) : Bool := match sc.kind with | .function => true | _ => false
def Ctx.isLoc (c : Ctx) (x : Str) : Bool := (c.kind x == some .local) && plainName x
/-- a value that is stored; a list that is written later is a cell -/
def compV (n : Nat) (c : Ctx) (cell : Bool) (e : Expr) : Option IE :=
  match cell, e with
  | true, .List es _ => (compEs (compE n c) es).map (.mk .lst)
  | _, e => compE n c e
/-- the suite of an except clause: a constant is returned, or nothing is done -/
def compH : List Stmt → Option ISs
  | [.Return (some (.Constant (.bool b) _ _)) _] => some (.cons (.ret (.cst (.bl b))) .nil)
  | [.Return (some (.Constant .none _ _)) _] => some (.cons (.ret (.cst .non)) .nil)
  | [.Return (some (.Constant (.str b) _ _)) _] => some (.cons (.ret (.cst (.str b))) .nil)
  | [.Pass _] => some (.cons .pass .nil)
  | _ => none
/-- the clauses: the classes of each, and its suite -/
def compHs (c : Ctx) (f : List Stmt → Option ISs) : List ExceptHandler → Option IHs
  | [] => some .nil
  | .ExceptHandler (some (.Name x _)) none (b₀ :: suite) _ :: r => if c.glb x then match c.t.exs.lookup x, f (b₀ :: suite), compHs c f r with
      | some l, some h, some hs => some (.cons l h hs)
      | _, _, _ => none
    else none
  | _ => none
/-- attributes of one name, as targets -/
def attrTs (x : Str) : List Expr → Option (List Str)
  | [] => some []
  | .Attribute (.Name y _) f _ :: r => if y = x then (attrTs x r).map (f :: ·) else none
  | _ => none
def firstName : List Expr → Option Str
  | .Attribute (.Name y _) _ _ :: _ => some y
  | _ => none
def fldIds (c : Ctx) : List Str → Option (List Nat)
  | [] => some []
  | f :: fs => match c.t.flds.lookup f, fldIds c fs with
    | some p, some r => some (p.1 :: r)
    | _, _ => none
/-- statements that raise nothing -/
def quietE : IE → Bool
  | .cst _ | .var _ => true
  | .op _ es => quietEs es
  | _ => false
where quietEs : IEs → Bool
  | .nil => true
  | .cons e es => quietE e && quietEs es
def quietS : IS → Bool
  | .pass | .brk | .cont | .retN => true
  | .ret e => quietE e
  | .set (.nm _) e => quietE e
  | .app o e => quietE o && quietE e
  | _ => false
def quietSs : ISs → Bool
  | .nil => true
  | .cons s ss => quietS s && quietSs ss
def quietHs : IHs → Bool
  | .nil => true
  | .cons _ h r => quietSs h && quietHs r
mutual
def compS : Nat → Ctx → Stmt → Option IS
  | 0, _, _ => none
  | n + 1, c, st => match st with
    | .Pass _ => some .pass
    | .Break _ => some .brk
    | .Continue _ => some .cont
    | .Expr (.Constant (.str _) _ _) _ => some .pass
    | .Expr (.Call (.Attribute o m apos) [e] [] cpos) _ => if m = "append" then (if plainObj o && !isStar e && (apos.endLine == cpos.line) then match compE n c o, compE n c e with
        | some io, some ie => some (.app io ie)
        | _, _ => none
      else none) else (compE n c (.Call (.Attribute o m apos) [e] [] cpos)).map .drop
    | .Expr e _ => if isComp e then none else (compE n c e).map .drop
    | .Assign [.Attribute o f tp] e pos => if isComp e then none else match c.t.flds.lookup f, compE n c o, compV n c (c.muts.contains f) e with
      | some p, some io, some ie => some (.setf p.1 io ie)
      | _, _, _ => none
    | .Assign [.Tuple (.Attribute (.Name x px) f fp :: ts) k tp] e pos => if isComp e || !c.calm then none else match attrTs x (.Attribute (.Name x px) f fp :: ts) with
      | some fs => match fldIds c fs, c.var x, compE n c e with
        | some fl, some i, some ie => some (.setfs i fl ie)
        | _, _, _ => none
      | none => none
    | .Return none _ => some .retN
    | .Return (some e) _ => (compV n c (c.muts.contains "return") e).map .ret
    | .Assign [.Name x p'] e pos =>
      if (c.kind x == some .local || (c.top && c.kind x == some .cell)) && plainName x then match slotOf c.N x with
        | some i => if !c.calm then none else match e with
          | .ListComp elt [⟨tg, iter, ifs, 0⟩] scope p =>
            if c.kind x == some .local && isFun c.sc && (p'.line == p.line) && !(scope.names.any fun (n, k) => n == x && (k == .local || k == .cell))
            then (compLc c n (compE n) (compT n) elt tg iter ifs scope).map (.set (.nm i)) else none
          | e => if isComp e then none else (compV n c (c.muts.contains x) e).map (.set (.nm i))
        | none => none
      else none
    | .Assign [.Tuple ts k tp] e pos => if !c.calm then none else if offSwap c.sc ts then (if isComp e then none else match compTgs c (n + 1) ts, compE n c e with
        | some t, some ie => some (.set (.tp t) ie)
        | _, _ => none)
      else match e with
      | .Tuple vs k2 p2 => match ts, vs with
        | [.Name x px, .Name y py], [a, b] =>
          if isStar a || isStar b then none else if [a, b].all (foldedForSure 8) then match compTgs c (n + 1) ts, compE n c e with
            | some t, some ie => some (.set (.tp t) ie)
            | _, _ => none
          else if c.isLoc x && c.isLoc y && isFun c.sc && (py.line == px.line) && !(x == y) && !([a, b].all (constantsAlone 8)) then match slotOf c.N x, slotOf c.N y, compEs (compE n c) vs with
            | some i, some j, some ies => some (.par [i, j] ies)
            | _, _, _ => none
          else none
        | [.Name x px, .Name y py, .Name z pz], [a, b, d] =>
          if isStar a || isStar b || isStar d || [a, b, d].all (foldedForSure 8) then none
          else if c.isLoc x && c.isLoc y && c.isLoc z && isFun c.sc && (py.line == px.line) && (pz.line == px.line) && !(x == y) && !(x == z) && !(y == z) && !([a, b, d].all (constantsAlone 8)) then match slotOf c.N x, slotOf c.N y, slotOf c.N z, compEs (compE n c) vs with
            | some i, some j, some l, some ies => some (.par [i, j, l] ies)
            | _, _, _, _ => none
          else none
        | _, _ => if ts.length == 2 || ts.length == 3 then none else match compTgs c (n + 1) ts, compE n c e with
          | some t, some ie => some (.set (.tp t) ie)
          | _, _ => none
      | e => if isComp e then none else match compTgs c (n + 1) ts, compE n c e with
        | some t, some ie => some (.set (.tp t) ie)
        | _, _ => none
    | .Assign [.Subscript o i tp] e pos => if isSlice i || isComp e then none else match compE n c o, compE n c i, compE n c e with
      | some io, some ii, some ie => some (.setix io ii ie)
      | _, _, _ => none
    | .If t a b _ => match compT n c t, compSs n c a, compSs n c b with
      | some it, some x, some y => some (.ife it x y)
      | _, _, _ => none
    | .While t a [] _ => match compT n c t, compSs n c a with
      | some it, some x => some (.whl it x)
      | _, _ => none
    | .For tg iter a [] _ => if !c.calm then none else match compTg c n tg, compI c tg (compE n c) iter, compSs n c a with
      | some t, some it, some x => some (.for t it x)
      | _, _, _ => none
    | .Raise (some (.Call (.Name x _) [.Constant (.str _) _ _] [] _)) none _ => if c.glb x && c.calm then (c.t.xs.lookup x).map fun k => .raise k .nil else none
    | .Try body (h₁ :: hds) [] [] _ => if c.top then match compSs n c body, compHs c (compSs n { c with calm := false }) (h₁ :: hds) with
        | some b, some hs => if quietHs hs then some (.tryn b hs) else none
        | _, _ => none
      else none
    | _ => none
def compSs : Nat → Ctx → List Stmt → Option ISs
  | 0, _, _ => none
  | _ + 1, _, [] => some .nil
  | n + 1, c, s :: ss => match compS n c s, compSs n c ss with
    | some a, some b => some (.cons a b)
    | _, _ => none
end

/-- .. for statements -/
structure XOkS (S : Sta) (C : Orc) (W : WX) (X : Cx) (c : Ctx) : Prop where
  e : XOk S C W X c
  stack : X.stack = X.env :: X.outer
  frame : X.env.frame = some X.env.locals
  passes : PassesOwn (model X.prog X.w) X.A X.env X.xe

section
variable {S : Sta} {C : Orc} {W : WX} {X : Cx} {c : Ctx}
theorem swaps_no {e : Expr} {t : Option Expr} {l : Nat} {env : PySem.Env} (h : ¬ isComp e = true) : swapsWith e t l env = pure false := by
  cases e <;> first | rfl | exact absurd rfl h
theorem soles_no {t e : Expr} {l : Nat} {env : PySem.Env} (h : ¬ isComp e = true) : swapsWithSole [t] e l env = pure false := swaps_no (t := some t) h
theorem isLoc_of (O : XOk S C W X c) {x : Str} (h : c.isLoc x = true) : X.env.scope.names.lookup x = some .local := by
  unfold Ctx.isLoc at h
  rw [Bool.and_eq_true] at h
  rw [O.sc]
  exact eq_of_beq h.1
theorem isFun_of (O : XOk S C W X c) (h : isFun c.sc = true) : X.env.scope.kind = .function := by
  rw [O.sc]
  unfold isFun at h
  split at h
  · assumption
  · cases h
theorem beq_no {x y : Str} (h : (!(x == y)) = true) : x ≠ y := by
  intro e
  subst e
  simp at h
theorem slot_ne {N : List Str} {x y : Str} {i j : Nat} (h1 : slotOf N x = some i) (h2 : slotOf N y = some j) (h : x ≠ y) : i ≠ j := by
  intro e
  subst e
  have a := slotOf_get h1
  rw [slotOf_get h2] at a
  exact h (Option.some.inj a).symm
theorem compV_ok (O : XOk S C W X c) {n : Nat} {b : Bool} {e : Expr} {ie : IE} (h : compV n c b e = some ie) : PE X e (rE S C W ie) := by
  unfold compV at h
  split at h
  · rename_i es p
    cases q : compEs (compE n c) es with
    | none => rw [q] at h; cases h
    | some ies =>
      rw [q] at h
      cases h
      exact peI (pe_lst (compEs_ok ((compE_both n).1 X W c O) q)) fun _ _ _ q => rE_mkl q
  · exact (compE_both n).1 X W c O _ ie h

/-! ### raise, try -/
theorem pmk_of (O : XOk S C W X c) {x m : Str} {k j : Nat} {p p2 pos : Pos} (hg : c.glb x = true) (h : c.t.xs.lookup x = some k) : PMk X (.Call (.Name x p) [.Constant (.str m) j p2] [] pos) (fun _ H Q => Q (.ref (S.ca k)) none H) := by
  obtain ⟨g, pl⟩ := O.gl hg
  obtain ⟨_, hm, F⟩ := O.tab.xs x k h
  rw [← O.K] at F
  obtain ⟨B, newId, initId, bmB, f1, f2⟩ := F.base
  exact pmk_own f1 f2 hm F.keep (raises_own F.sub F.ty) g (plain_1 pl)
theorem ps_raiseI (O : XOk S C W X c) (hcalm : c.calm = true) {x m : Str} {k j : Nat} {p p2 pos pos2 : Pos} (hg : c.glb x = true) (h : c.t.xs.lookup x = some k) : PS X (.Raise (some (.Call (.Name x p) [.Constant (.str m) j p2] [] pos)) none pos2) (rS S C W (.raise k .nil)) := by
  refine psI (ps_raise (O.calm hcalm) O.takes (pmk_of O hg h)) fun D σ H q => ?_
  obtain ⟨μ, F, env, M, f, hM, hE, hd, hk⟩ := q
  unfold denS denEs at hd
  simp only [bndS_ok, holds_nil] at hd
  cases hd
  exact hk μ F H σ _ none Aft.refl hM hE ⟨(O.tab.xs x k h).1, rfl, .inl ⟨rfl, rfl⟩⟩
theorem XOkS.suite (O : XOkS S C W X c) {a : Addr} {pn : List (Addr × Obj)} : XOkS S C (fun _ _ _ _ => False) (X.suite a pn) { c with calm := false } where
  e := ⟨O.e.K, fun h => (by cases h), O.e.nd, O.e.N, O.e.sc, O.e.fn, takes0, O.e.units, O.e.tab, fun h => (by cases h)⟩
  stack := O.stack
  frame := O.frame
  passes := fun e s' h => h.elim
/-- no exception leaves the suite -/
theorem KS.noex {μ : Nat → Addr} {F H : Hp} {k : Nat} {D : Ends} {f : Fl} (h : KS S W μ F H k D f) (hn : ∀ x env M, f ≠ .ex x env M) : KS S (fun _ _ _ _ => False) μ F H k D f := by
  cases f with
  | ex x env M => exact absurd rfl (hn x env M)
  | nx env M => exact h
  | rt v M => exact h
  | bk env M => exact h
  | ct env M => exact h
mutual
theorem quietE_no {env : Env} {M M1 : Mem} {x : Xn} : ∀ {e : IE}, quietE e = true → denE C e env M ≠ some (.ex x M1)
  | .cst d, _, z => by unfold denE at z; cases z
  | .var i, _, z => by
    unfold denE at z
    split at z <;> cases z
  | .op o es, h, z => by
    unfold denE at z
    rcases bnd_eq z with ⟨vs, M2, h1, h2⟩ | ⟨y, M2, h1, h2⟩
    · unfold runOp at h2
      split at h2
      · split at h2
        · rename_i xs M3 q
          cases q2 : opD o xs with
          | none => rw [q2] at h2; cases h2
          | some w => rw [q2] at h2; cases h2
        · cases h2
      · split at h2
        · rename_i xs q
          cases q2 : opD o xs with
          | none => rw [q2] at h2; cases h2
          | some w => rw [q2] at h2; cases h2
        · cases h2
    · exact quietEs_no h h1
  | .mk o es, h, z => by cases h
  | .and a b, h, z => by cases h
  | .or a b, h, z => by cases h
  | .not a, h, z => by cases h
  | .ife c a b, h, z => by cases h
  | .call f es, h, z => by cases h
  | .callp f p es, h, z => by cases h
  | .fld f cs e, h, z => by cases h
  | .prop t e, h, z => by cases h
  | .mth t p o es, h, z => by cases h
  | .new c l f p es, h, z => by cases h
  | .newv i c l f p es, h, z => by cases h
  | .eqo n t u a b, h, z => by cases h
  | .rpr t e, h, z => by cases h
  | .eql n t a b, h, z => by cases h
  | .anint e, h, z => by cases h
  | .fstr es, h, z => by cases h
  | .chain o o' a b c, h, z => by cases h
  | .lc t o i c e, h, z => by cases h
theorem quietEs_no {env : Env} {M M1 : Mem} {x : Xn} : ∀ {es : IEs}, quietE.quietEs es = true → denEs C es env M ≠ some (.ex x M1)
  | .nil, _, z => by unfold denEs at z; cases z
  | .cons e es, h, z => by
    have h : (quietE e && quietE.quietEs es) = true := h
    rw [Bool.and_eq_true] at h
    unfold denEs at z
    rcases bnd_eq z with ⟨v, M2, h1, h2⟩ | ⟨y, M2, h1, h2⟩
    · rcases bnd_eq h2 with ⟨vs, M3, h3, h4⟩ | ⟨y, M3, h3, h4⟩
      · cases h4
      · exact quietEs_no h.2 h3
    · exact quietE_no h.1 h1
end
theorem quietS_no {env env1 : Env} {M M1 : Mem} {x : Xn} {s : IS} (h : quietS s = true) : denS C s env M ≠ some (.ex x env1 M1) := by
  intro z
  unfold quietS at h
  split at h
  · unfold denS at z; cases z
  · unfold denS at z; cases z
  · unfold denS at z; cases z
  · unfold denS at z; cases z
  · unfold denS at z
    rcases bndS_eq z with ⟨v, M2, h1, h2⟩ | ⟨y, M2, h1, h2⟩
    · cases h2
    · exact quietE_no h h1
  · unfold denS at z
    rcases bndS_eq z with ⟨v, M2, h1, h2⟩ | ⟨y, M2, h1, h2⟩
    · cases h2
    · exact quietE_no h h1
  · rw [Bool.and_eq_true] at h
    unfold denS at z
    rcases bndS_eq z with ⟨v, M2, h1, h2⟩ | ⟨y, M2, h1, h2⟩
    · split at h2
      · rcases bndS_eq h2 with ⟨w, M3, h3, h4⟩ | ⟨y, M3, h3, h4⟩
        · split at h4 <;> cases h4
        · exact quietE_no h.2 h3
      · cases h2
    · exact quietE_no h.1 h1
  · cases h
theorem quietSs_no {env1 : Env} {M1 : Mem} {x : Xn} : ∀ {ss : ISs} {env : Env} {M : Mem}, quietSs ss = true → denSs C ss env M ≠ some (.ex x env1 M1)
  | .nil, env, M, _, z => by unfold denSs at z; cases z
  | .cons s ss, env, M, h, z => by
    have h : (quietS s && quietSs ss) = true := h
    rw [Bool.and_eq_true] at h
    unfold denSs at z
    cases q : denS C s env M with
    | none => rw [q] at z; cases z
    | some f =>
      rw [q] at z
      cases f with
      | nx env2 M2 => exact quietSs_no h.2 z
      | rt v M2 => cases z
      | bk env2 M2 => cases z
      | ct env2 M2 => cases z
      | ex y env2 M2 => exact quietS_no h.1 q
theorem compHs_ok (O : XOkS S C W X c) {f : List Stmt → Option ISs} (ih : ∀ (a : Addr) (pn : List (Addr × Obj)) sts ss, f sts = some ss → PSs (X.suite a pn) sts (rSs S C (fun _ _ _ _ => False) ss)) : ∀ {hds : List ExceptHandler} {hs : IHs}, compHs c f hds = some hs → quietHs hs = true →
    ∃ vs : List (Value × (Addr → Value → Option Addr → TS)), HdsOk X hds vs ∧
      ∀ (D : Ends) (μ : Nat → Addr) (F : Hp) (σ : Sl) (H : Hp) (env1 : Env) (M1 : Mem) (x1 : Xn) (cls : Value) (d : Option Addr) (f : Fl), MemR S μ F M1 H → EnvR S μ F M1.length env1 σ → RepX S F x1 cls d → denH C hs x1 env1 M1 = some f → KS S W μ F H M1.length D f → wMany X.K W D vs cls d σ H := by
  intro hds
  induction hds with
  | nil =>
    intro hs h _
    cases h
    refine ⟨[], .nil, fun D μ F σ H env1 M1 x1 cls d f hM hE rx hp hk => ?_⟩
    unfold denH at hp
    cases hp
    exact hk μ F H σ _ d Aft.refl hM hE rx
  | cons hd hds ihh =>
    intro hs h hq
    unfold compHs at h
    split at h
    · cases ‹_ = []›
    · rename_i x np b₀ suite pos' r heq
      cases heq
      split at h
      · rename_i hg
        split at h
        · rename_i l ih1 hs1 h1 h2 h3
          cases h
          have hq : (quietSs ih1 && quietHs hs1) = true := hq
          rw [Bool.and_eq_true] at hq
          obtain ⟨g, pl⟩ := O.e.gl hg
          obtain ⟨Ca, hm, hx⟩ := O.e.tab.exs x l h1
          obtain ⟨vs, k1, k3⟩ := ihh h3 hq.2
          refine ⟨(.ref Ca, fun _ _ _ => rSs S C (fun _ _ _ _ => False) ih1) :: vs, .cons ⟨g, plain_1 pl, .inl hm⟩ (fun a oe cls d pn _ _ => ih a _ _ _ h2) k1, ?_⟩
          intro D μ F σ H env1 M1 x1 cls d f hM hE rx hp hk
          obtain ⟨hc, rfl, hd2⟩ := id rx
          refine ⟨l.contains x1.c, by rw [O.e.K]; exact hx x1.c hc, fun hb a ha => ?_, fun hb => ?_⟩
          · unfold denH at hp
            rw [if_pos hb] at hp
            exact ⟨μ, F, env1, M1, f, hM, hE, hp, hk.noex fun x env M e => quietSs_no hq.1 (e ▸ hp)⟩
          · unfold denH at hp
            rw [if_neg (by rw [hb]; decide)] at hp
            exact k3 D μ F σ H env1 M1 x1 _ d f hM hE rx hp hk
        · cases h
      · cases h
    · cases h
theorem ps_tryI (O : XOkS S C W X c) {f : List Stmt → Option ISs} {h₀ : ExceptHandler} {hds : List ExceptHandler} {hs : IHs} {body : List Stmt} {pos : Pos} {ib : ISs}
    (hb : ∀ (W : WX) (pn : List (Addr × Obj)) (xe : Value → Shared → Prop), XOkS S C W (X.tr pn xe) c → PSs (X.tr pn xe) body (rSs S C W ib)) (ih : ∀ (a : Addr) (pn : List (Addr × Obj)) sts ss, f sts = some ss → PSs (X.suite a pn) sts (rSs S C (fun _ _ _ _ => False) ss))
    (hh : compHs c f (h₀ :: hds) = some hs) (hq : quietHs hs = true) : PS X (.Try body (h₀ :: hds) [] [] pos) (rS S C W (.tryn ib hs)) := by
  have tr : ∀ (W : WX) (pn : List (Addr × Obj)) (xe : Value → Shared → Prop), Takes (X.tr pn xe) W → PassesOwn (model X.prog X.w) X.A X.env xe → XOkS S C W (X.tr pn xe) c := fun W pn xe tk pa =>
    ⟨⟨O.e.K, O.e.calm, O.e.nd, O.e.N, O.e.sc, O.e.fn, tk, O.e.units, O.e.tab, fun h => by
      obtain ⟨hg, k, hr, R⟩ := O.e.runs h
      exact ⟨hg, k, hr, ⟨R.len, R.r, R.f⟩⟩⟩, O.stack, O.frame, pa⟩
  obtain ⟨vs, k1, k3⟩ := compHs_ok O ih hh hq
  refine psI (ps_try_many (l := vs) (tb := fun W => rSs S C W ib) (Wout := W) O.stack O.frame O.e.takes (fun W pn xe tk pa => hb W pn xe (tr W pn xe tk pa)) k1) fun D σ H q => ?_
  obtain ⟨μ, F, env, M, f, hM, hE, hd, hk⟩ := q
  unfold denS at hd
  cases q1 : denSs C ib env M with
  | none => rw [q1] at hd; cases hd
  | some gf =>
    rw [q1] at hd
    refine ⟨μ, F, env, M, gf, hM, hE, q1, ?_⟩
    cases gf with
    | nx env1 M1 => cases hd; exact hk
    | rt v M1 => cases hd; exact hk
    | bk env1 M1 => cases hd; exact hk
    | ct env1 M1 => cases hd; exact hk
    | ex x1 env1 M1 =>
      intro μ1 F1 H1 σ1 cls d a1 m1 e1 rx
      exact k3 D μ1 F1 σ1 H1 env1 M1 x1 cls d f m1 e1 rx hd (hk.weak a1)

/-! ### attributes, append -/
theorem attrs_ok (O : XOk S C W X c) {x : Str} {i : Nat} (hx : c.var x = some i) : ∀ {ts : List Expr} {fs : List Str}, attrTs x ts = some fs → PGs X ts (gFlds S.K i fs)
  | [], fs, h => by
    cases h
    exact pgs_nil
  | t :: ts, fs, h => by
    unfold attrTs at h
    split at h
    · cases ‹_ = []›
    · rename_i y py f fp r heq
      cases heq
      split at h
      · rename_i e
        subst e
        cases q : attrTs y ts with
        | none => rw [q] at h; cases h
        | some gs =>
          rw [q] at h
          cases h
          obtain ⟨h1, h2, h3⟩ := O.seen hx
          have g := pg_attr (X := X) (f := f) (pos := fp) (pe_var (pos := py) h1 h2 (plain_1 h3) (plain_2 h3))
          rw [O.K] at g
          exact pgs_cons g (attrs_ok O hx q)
      · cases h
    · cases h
theorem attrTs_as {x : Str} {env : PySem.Env} : ∀ {ts : List Expr} {fs : List Str}, attrTs x ts = some fs → (assignEach ts env).length = fs.length ∧ (assignEach ts env).findIdx? (·.1) = none
  | [], fs, h => by
    cases h
    exact ⟨rfl, rfl⟩
  | t :: ts, fs, h => by
    unfold attrTs at h
    split at h
    · cases ‹_ = []›
    · rename_i y py f fp r heq
      cases heq
      split at h
      · cases q : attrTs x ts with
        | none => rw [q] at h; cases h
        | some gs =>
          rw [q] at h
          cases h
          obtain ⟨a, b⟩ := attrTs_as (env := env) q
          rw [assign_no (fun _ _ e => by cases e)]
          exact ⟨by simp [a], by simp [List.findIdx?_cons, b]⟩
      · cases h
    · cases h
theorem fldIds_ok (O : XOk S C W X c) : ∀ {fs : List Str} {fl : List Nat}, fldIds c fs = some fl → fl.map S.fnm = fs ∧ ∀ f ∈ fl, S.fok f = true ∧ ∀ c, S.ih c = true → NoAttr S.K (S.ca c) (S.fnm f)
  | [], fl, h => by
    cases h
    exact ⟨rfl, fun f hf => by cases hf⟩
  | f :: fs, fl, h => by
    unfold fldIds at h
    split at h
    · rename_i p r h1 h2
      cases h
      obtain ⟨ff, na⟩ := O.tab.flds f p.1 p.2 h1
      obtain ⟨e, al⟩ := fldIds_ok O h2
      refine ⟨by rw [List.map_cons, ff.nm, e], fun g hg => ?_⟩
      rcases List.mem_cons.mp hg with rfl | hg
      · exact ⟨ff.ok, by rw [ff.nm]; exact na⟩
      · exact al g hg
    · cases h
theorem attrTs_off {sc : Scope} {x : Str} {t : Expr} {ts : List Expr} {fs : List Str} (h : attrTs x (t :: ts) = some fs) : offSwap sc (t :: ts) = true := by
  have e : ∀ {ts : List Expr} {fs : List Str} (p : Nat), attrTs x ts = some fs → (ts.filterMap fun
    | .Name id pos => if sc.names.lookup id == some .local && pos.line == p then some id else none
    | _ => none) = [] := by
    intro ts
    induction ts with
    | nil => intro fs p _; rfl
    | cons t ts ih =>
      intro fs p h
      unfold attrTs at h
      split at h
      · cases ‹_ = []›
      · rename_i y py f fp r heq
        cases heq
        split at h
        · cases q : attrTs x ts with
          | none => rw [q] at h; cases h
          | some gs => exact ih p q
        · cases h
      · cases h
  have e2 := e ((t :: ts).head?.map (·.pos.line) |>.getD 0) h
  unfold offSwap offNames
  exact (congrArg (fun l : List Str => l.length != (t :: ts).length) e2).trans rfl

/-! ### all statements -/
theorem compS_both (n : Nat) : (∀ (X : Cx) (W : WX) (c : Ctx), XOkS S C W X c → ∀ st s, compS n c st = some s → PS X st (rS S C W s)) ∧ (∀ (X : Cx) (W : WX) (c : Ctx), XOkS S C W X c → ∀ sts ss, compSs n c sts = some ss → PSs X sts (rSs S C W ss)) := by
  induction n with
  | zero => exact ⟨fun X W c O e ie h => by simp [compS] at h, fun X W c O e ie h => by simp [compSs] at h⟩
  | succ n ih =>
    obtain ⟨ihS, ihL⟩ := ih
    refine ⟨fun X W c O st s h => ?_, fun X W c O sts ss h => ?_⟩
    rotate_left
    · cases sts with
      | nil => simp only [compSs, Option.some.injEq] at h; subst h; exact pss_nilI
      | cons st sts =>
        unfold compSs at h
        split at h
        · rename_i a b h1 h2
          cases h
          exact pss_consI (ihS X W c O st a h1) (ihL X W c O sts b h2)
        · cases h
    have E := (compE_both (S := S) (C := C) n).1 X W c O.e
    have Tt := (compE_both (S := S) (C := C) n).2 X W c O.e
    unfold compS at h
    split at h
    · cases h; exact ps_passI
    · cases h; exact ps_brkI
    · cases h; exact ps_contI
    · cases h; exact ps_docI
    · rename_i o m apos e cpos p2
      split at h
      · rename_i hm
        subst hm
        split at h
        · rename_i hq
          simp only [Bool.and_eq_true, Bool.not_eq_true'] at hq
          split at h
          · rename_i io ie h1 h2
            cases h
            have hs : ¬ isStar e = true := by rw [hq.1.2]; decide
            refine psI (ps_expr (pe_bm F.plainAttrs_list F.slot_list_append rfl mt_append (E o io h1) (pa_cons (E e ie h2) pa_nil (star_no (star_of hs))) (plainObj_hb hq.1.1) (by rw [star_no (star_of hs)] <;> rfl) hq.2 (star_no (star_of hs)) (by rfl)) (by rfl)) fun D σ H q => ?_
            rw [O.e.K]
            exact rS_app q
          · cases h
        · cases h
      · cases q : compE n c (.Call (.Attribute o m apos) [e] [] cpos) with
        | none => rw [q] at h; cases h
        | some ie =>
          rw [q] at h
          cases h
          exact ps_dropI (E _ ie q) (swaps_no (by intro z; cases z))
    · rename_i e p _ _
      split at h
      · cases h
      · rename_i hc
        cases q : compE n c e with
        | none => rw [q] at h; cases h
        | some ie =>
          rw [q] at h
          cases h
          exact ps_dropI (E e ie q) (swaps_no hc)
    · rename_i o f tp e pos
      split at h
      · cases h
      · rename_i hc
        split at h
        · rename_i p io ie h1 h2 h3
          cases h
          obtain ⟨ff, na⟩ := O.e.tab.flds f p.1 p.2 h1
          refine psI (ps_fld (E o io h2) (compV_ok O.e h3) (swaps_no hc)) fun D σ H q => ?_
          rw [O.e.K]
          exact rS_setf O.e.tab.base ff na q
        · cases h
    · rename_i x px f fp ts k tp e pos
      split at h
      · cases h
      · rename_i hc
        rw [Bool.or_eq_true, not_or] at hc
        have hcalm : c.calm = true := by
          cases q : c.calm with
          | true => rfl
          | false => exact absurd (by rw [q]; rfl) hc.2
        split at h
        · rename_i fs h0
          split at h
          · rename_i fl i ie h1 h2 h3
            cases h
            obtain ⟨e1, e2⟩ := fldIds_ok O.e h1
            refine psI (ps_asg (E e ie h3) (pg_tup (n := fl.length) (O.e.calm hcalm) (attrs_ok O.e h2 h0) (by rw [(attrTs_as h0).1, ← e1, List.length_map]) (attrTs_as h0).2) (soles_no hc.1) (swap_off (by rw [O.e.sc]; exact attrTs_off h0))) fun D σ H q => ?_
            have q2 := rS_setfs O.e.tab.base e2 q
            rw [e1] at q2
            rw [O.e.K]
            exact q2
          · cases h
        · cases h
    · cases h; exact ps_retNI
    · rename_i e p
      cases q : compV n c (c.muts.contains "return") e with
      | none => rw [q] at h; cases h
      | some ie =>
        rw [q] at h
        cases h
        exact ps_retI (compV_ok O.e q)
    · rename_i x p' e pos
      split at h
      · rename_i hx
        rw [Bool.and_eq_true, Bool.or_eq_true, Bool.and_eq_true] at hx
        obtain ⟨hx, pl⟩ := hx
        split at h
        · rename_i i hi
          split at h
          · cases h
          rename_i hcm
          have hcalm : c.calm = true := by
            cases q : c.calm with
            | true => rfl
            | false => exact absurd (by rw [q]; rfl) hcm
          have hN : X.N[i]? = some x := by rw [O.e.N]; exact slotOf_get hi
          have hlf : Loc X.env.scope x ∧ (X.fn x = true ∨ X.env.scope.names.lookup x = some .local) := by
            rcases hx with q | ⟨q1, q2⟩
            · have k : X.env.scope.names.lookup x = some .local := by rw [O.e.sc]; exact eq_of_beq q
              exact ⟨.inl k, .inr k⟩
            · have k : X.env.scope.names.lookup x = some .cell := by rw [O.e.sc]; exact eq_of_beq q2
              exact ⟨.inr k, .inl (O.e.fn q1 x)⟩
          split at h
          · rename_i elt tg iter ifs scope p
            split at h
            · rename_i hq
              simp only [Bool.and_eq_true, Bool.not_eq_true'] at hq
              obtain ⟨⟨⟨q1, q2⟩, q3⟩, q4⟩ := hq
              cases q : compLc c n (compE n) (compT n) elt tg iter ifs scope with
              | none => rw [q] at h; cases h
              | some ie =>
                rw [q] at h
                cases h
                obtain ⟨t, own, it, cs, e, rfl, bo, sl, p1, p2, p3, p4, p5⟩ := compLc_ok O.e hcalm (compE_both n).1 (compE_both n).2 q
                have kl : X.env.scope.names.lookup x = some .local := by rw [O.e.sc]; exact eq_of_beq q1
                refine psI (ps_setLc (O.e.calm hcalm) O.e.nd hN kl (sw_true (isFun_of O.e q2) kl q3 q4) p1 bo p3 p4 p5 p2) fun D σ H q => ?_
                obtain ⟨μ, F, env, M, f, hM, hE, hd, hk⟩ := q
                unfold denS at hd
                refine rE_lc sl (rE_bndS hM hE hd hk fun μ1 F1 H1 v M1 w a m e1 r h1 k1 => ?_)
                cases h1
                exact k1 μ1 F1 H1 _ Aft.refl m (e1.set i r)
            · cases h
          · rename_i hn
            split at h
            · cases h
            · rename_i hc
              cases q : compV n c (c.muts.contains x) e with
              | none => rw [q] at h; cases h
              | some ie =>
                rw [q] at h
                cases h
                exact ps_setI O.e.nd hN hlf.1 (compV_ok O.e q) (swaps_no hc) hlf.2
        · cases h
      · cases h
    · rename_i ts k tp e pos _
      split at h
      · cases h
      rename_i hcm
      have hcalm : c.calm = true := by
        cases q : c.calm with
        | true => rfl
        | false => exact absurd (by rw [q]; rfl) hcm
      have many : ∀ {t : List Tg} {ie : IE}, compTgs c (n + 1) ts = some t → compE n c e = some ie → ¬ isComp e = true → swappedStores [.Tuple ts k tp] e X.env = pure none → PS X (.Assign [.Tuple ts k tp] e pos) (rS S C W (.set (.tp t) ie)) := by
        intro t ie h1 h2 h3 h4
        obtain ⟨k1, k2, k3⟩ := (compTg_both O.e hcalm (n + 1)).2 ts t h1
        exact ps_tpI O.e.K (O.e.calm hcalm) k1 k2 k3 (E e ie h2) (soles_no h3) h4
      split at h
      · rename_i hoff
        split at h
        · cases h
        · rename_i hc
          split at h
          · rename_i t ie h1 h2
            cases h
            exact many h1 h2 hc (swap_off (by rw [O.e.sc]; exact hoff))
          · cases h
      split at h
      · rename_i vs k2 p2
        split at h
        · rename_i x px y py a b _ho _
          split at h
          · cases h
          · rename_i hs
            rw [Bool.or_eq_true, not_or, Bool.not_eq_true, Bool.not_eq_true] at hs
            split at h
            · rename_i hf
              split at h
              · rename_i t ie h1 h2
                cases h
                exact many h1 h2 (by intro z; cases z) (swap2c hf hs.1 hs.2)
              · cases h
            · rename_i hf
              rw [Bool.not_eq_true] at hf
              split at h
              · rename_i hq
                simp only [Bool.and_eq_true, Bool.not_eq_true'] at hq
                obtain ⟨⟨⟨⟨⟨q1, q2⟩, q3⟩, q4⟩, q5⟩, q6⟩ := hq
                split at h
                · rename_i i j ies h1 h2 h3
                  cases h
                  have hxy : x ≠ y := beq_no (by rw [q5] <;> rfl)
                  have l1 := isLoc_of O.e q1
                  have l2 := isLoc_of O.e q2
                  exact ps_par2I (O.e.calm hcalm) O.e.nd (by rw [O.e.N]; exact slotOf_get h1) (by rw [O.e.N]; exact slotOf_get h2) (slot_ne h1 h2 hxy) l1 l2 (compEs_ok E h3)
                    (swap2 (isFun_of O.e q3) l1 l2 q4 hxy hs.1 hs.2 hf q6)
                · cases h
              · cases h
        · rename_i x px y py z pz a b d _ho _
          split at h
          · cases h
          · rename_i hs
            simp only [Bool.or_eq_true, not_or, Bool.not_eq_true] at hs
            obtain ⟨⟨⟨s1, s2⟩, s3⟩, hf⟩ := hs
            split at h
            · rename_i hq
              simp only [Bool.and_eq_true, Bool.not_eq_true'] at hq
              obtain ⟨⟨⟨⟨⟨⟨⟨⟨⟨q1, q2⟩, q3⟩, q4⟩, q5⟩, q6⟩, q7⟩, q8⟩, q9⟩, qa⟩ := hq
              split at h
              · rename_i i j l ies h1 h2 h3 h4
                cases h
                have n1 : x ≠ y := beq_no (by rw [q7] <;> rfl)
                have n2 : x ≠ z := beq_no (by rw [q8] <;> rfl)
                have n3 : y ≠ z := beq_no (by rw [q9] <;> rfl)
                have l1 := isLoc_of O.e q1
                have l2 := isLoc_of O.e q2
                have l3 := isLoc_of O.e q3
                exact ps_par3I (O.e.calm hcalm) O.e.nd (by rw [O.e.N]; exact slotOf_get h1) (by rw [O.e.N]; exact slotOf_get h2) (by rw [O.e.N]; exact slotOf_get h3) (slot_ne h1 h2 n1) (slot_ne h1 h3 n2) (slot_ne h2 h3 n3) l1 l2 l3 (compEs_ok E h4)
                  (swap3 (isFun_of O.e q4) l1 l2 l3 q5 q6 n1 n2 n3 s1 s2 s3 hf qa)
              · cases h
            · cases h
        · split at h
          · cases h
          · rename_i hl
            rw [Bool.not_eq_true] at hl
            split at h
            · rename_i t ie h1 h2
              cases h
              exact many h1 h2 (by intro z; cases z) (swap_len hl)
            · cases h
      · rename_i hn
        split at h
        · cases h
        · rename_i hc
          split at h
          · rename_i t ie h1 h2
            cases h
            exact many h1 h2 hc (swap_no fun a b d z => hn a b d z)
          · cases h
    · rename_i o i tp e pos
      split at h
      · cases h
      · rename_i hs
        rw [Bool.or_eq_true, not_or] at hs
        split at h
        · rename_i io ii ie h1 h2 h3
          cases h
          refine ps_setixI (E o io h1) (E i ii h2) (E e ie h3) (fun v => ?_) (soles_no hs.2) rfl
          have hsl := hs.1
          cases i <;> first | rfl | exact absurd rfl hsl
        · cases h
    · rename_i t a b p
      split at h
      · rename_i it x y h1 h2 h3
        cases h
        exact ps_ifI (Tt t it h1) (ihL X W c O a x h2) (ihL X W c O b y h3)
      · cases h
    · rename_i t a p
      split at h
      · rename_i it x h1 h2
        cases h
        exact ps_whlI O.passes (Tt t it h1) (ihL X W c O a x h2)
      · cases h
    · rename_i tg iter a p
      split at h
      · cases h
      rename_i hcm
      have hcalm : c.calm = true := by
        cases q : c.calm with
        | true => rfl
        | false => exact absurd (by rw [q]; rfl) hcm
      split at h
      · rename_i t it x h1 h2 h3
        cases h
        obtain ⟨k1, k2⟩ := compI_ok (tg := tg) O.e E h2
        exact ps_forI O.passes (O.e.calm hcalm) k1 ((compTg_both O.e hcalm n).1 tg t h1) (ihL X W c O a x h3) k2
      · cases h
    · rename_i x p m j p2 p3 p4
      split at h
      · rename_i hg
        rw [Bool.and_eq_true] at hg
        cases q : c.t.xs.lookup x with
        | none => rw [q] at h; cases h
        | some k =>
          rw [q] at h
          cases h
          exact ps_raiseI O.e hg.2 hg.1 q
      · cases h
    · rename_i body h₁ hds p
      split at h
      · split at h
        · rename_i b hs h1 h2
          split at h
          · rename_i hq
            cases h
            exact ps_tryI O (fun W pn xe O' => ihL _ W c O' _ b h1) (fun a pn sts ss hf => ihL _ _ _ O.suite _ _ hf) h2 hq
          · cases h
        · cases h
      · cases h
    · cases h
end
end PyI

/-! PyI 11: defs keep what the oracle says. -/
namespace PyI
open PySem PySem.Spec PyProof.Rows L2
open Evl (Ex)

/-- a def of the text, by the number it has everywhere -/
structure DefT where
  g : Nat
  x : Str
  qual : Str
  st : Stmt
  N : List Str
  ps : List Str
  pv : Option Str
  fn : Fn
  muts : List Str
def DefT.ctx (d : DefT) (t : Tb) : Ctx := ⟨d.N, defScope d.st, true, t, d.muts, true⟩
def DefT.all (d : DefT) : List Str := match d.pv with
  | none => d.ps
  | some y => d.ps ++ [y]
def BindsOk (d : DefT) : Prop := match d.pv with
  | none => ∀ (kV doc pm : Value) (an : Option Addr) (cdv ct : Value) (us : List Value), us.length = d.ps.length → bindArgs (PySem.W.fnOf d.x d.qual (defArgs d.st) (defBody d.st) (defScope d.st) .none kV doc pm an cdv ct) ⟨us, []⟩ = pure (d.ps.zip us)
  | some y => ∀ (kV doc pm : Value) (an : Option Addr) (cdv ct : Value) (us rest : List Value), us.length = d.ps.length →
      bindArgs (PySem.W.fnOf d.x d.qual (defArgs d.st) (defBody d.st) (defScope d.st) .none kV doc pm an cdv ct) ⟨us ++ rest, []⟩ = (newTuple rest >>= fun t => pure (d.ps.zip us ++ [(y, t)]))
/-- what is read off the text -/
structure DefT.Ok (d : DefT) (t : Tb) : Prop where
  comp : compSs 200 (d.ctx t) (defBody d.st) = some d.fn.body
  scope : FnScope d.N d.all (defScope d.st)
  ns : d.fn.ns = d.N.length
  np : d.fn.np = d.ps.length
  star : d.fn.star = d.pv.isSome
/-- the function object -/
def FunG (K : PySem.W.Frag) (d : DefT) (f : Addr) (fd : FuncData) : Prop := ∃ (oc : Value) (od : Option Addr) (dV kV doc pm : Value) (an : Option Addr) (cdv ct : Value) (osl : Array (Option Value)),
  fd = PySem.W.fnOf d.x d.qual (defArgs d.st) (defBody d.st) (defScope d.st) dV kV doc pm an cdv ct ∧ K.lookup f = some ⟨oc, od, .func fd, osl⟩ ∧ PySem.W.codeIn K cdv d.qual = true ∧ ((dV = .none ∧ BindsOk d) ∨ (d.pv = none ∧ Binds K fd d.ps []))

/-- the promise of a body: the arguments are bound -/
def spB (S : Sta) (C : Orc) (G : Fn) : Sp := fun vs H Q E => ∃ μ F as M r, MemR S μ F M H ∧ RepVs S F μ M.length as vs ∧ endFn G.keep M.length (denSs C G.body (startE G.ns as) M) = some r ∧ KF S μ F H M.length Q E r

section
variable {S : Sta} {C : Orc}
theorem repVs_1 {F : Hp} {μ : Nat → Addr} {k : Nat} {x : D} {v : V} (h : RepD S F x v) : RepVs S F μ k [.d x] [v] := ⟨h, trivial⟩
theorem repVs_get {F : Hp} {μ : Nat → Addr} {k : Nat} : ∀ {as : List Val} {vs : List V} {i : Nat} {a : Val}, RepVs S F μ k as vs → as[i]? = some a → ∃ v, vs[i]? = some v ∧ RepV S F μ k a v
  | [], vs, i, a, h, e => by simp at e
  | b :: as, vs, i, a, h, e => by
    obtain ⟨v, ws, rfl, h1, h2⟩ := h.cons
    cases i with
    | zero =>
      have e : b = a := by simpa using e
      subst e
      exact ⟨v, rfl, h1⟩
    | succ i => exact repVs_get (i := i) h2 (by simpa using e)
theorem env_start {F : Hp} {μ : Nat → Addr} {k : Nat} {as : List Val} {vs : List V} {N : List Str} (h : RepVs S F μ k as vs) : EnvR S μ F k (startE N.length as) (start N vs) := by
  have hl := h.len
  refine ⟨by simp [startE, L2.start, hl], fun i v e => ?_⟩
  unfold startE at e
  by_cases hi : i < as.length
  · rw [List.getElem?_append_left (by simpa using hi), List.getElem?_map] at e
    cases q : as[i]? with
    | none => rw [q] at e; cases e
    | some a =>
      rw [q] at e
      cases e
      obtain ⟨w, h1, h2⟩ := repVs_get h q
      refine ⟨w, ?_, h2⟩
      unfold L2.start
      rw [List.getElem?_append_left (by rw [List.length_map, ← hl]; exact hi), List.getElem?_map, h1] <;> rfl
  · rw [List.getElem?_append_right (by simpa using hi), List.getElem?_replicate] at e
    split at e <;> cases e
/-- the cells that the def made are dropped -/
theorem cut_ok {μ μ1 : Nat → Addr} {F H F1 H1 : Hp} {M M1 : Mem} (a : Aft μ F H M.length μ1 F1 H1 M1.length) (m : MemR S μ1 F1 M1 H1) : Aft μ F H M.length μ1 F1 H1 (M1.take M.length).length ∧ MemR S μ1 F1 (M1.take M.length) H1 := by
  have e : (M1.take M.length).length = M.length := by rw [List.length_take]; exact Nat.min_eq_left a.le
  exact ⟨by rw [e]; exact a.cut (Nat.le_refl _) a.le, m.take _⟩
theorem ret_ok {μ μ1 : Nat → Addr} {F H F1 H1 : Hp} {M M1 : Mem} {keep : Bool} {v : Val} {w : V} {r : R Val} {Q : VK} {E : XK} (a : Aft μ F H M.length μ1 F1 H1 M1.length) (m : MemR S μ1 F1 M1 H1) (rv : RepV S F1 μ1 M1.length v w)
    (h : endRet keep M.length v M1 = some r) (k : KF S μ F H M.length Q E r) : Q w H1 := by
  obtain ⟨a2, m2⟩ := cut_ok a m
  have el : (M1.take M.length).length = M.length := by rw [List.length_take]; exact Nat.min_eq_left a.le
  unfold endRet at h
  cases v with
  | d x =>
    cases h
    exact k μ1 F1 H1 w a2 m2 rv
  | rf n =>
    obtain ⟨hn, rfl⟩ := (show n < M1.length ∧ w = V.ref (μ1 n) from rv)
    simp only at h
    by_cases hk : n < M.length
    · rw [if_pos hk] at h
      cases h
      exact k μ1 F1 H1 _ a2 m2 ⟨by rw [el]; exact hk, rfl⟩
    · rw [if_neg hk] at h
      cases hc : M1[n]? with
      | none => rw [hc] at h; cases h
      | some c =>
        rw [hc] at h
        cases c with
        | lst xs =>
          simp only at h
          cases keep with
          | false =>
            rw [if_neg (by decide)] at h
            cases h
            obtain ⟨F2, h1, h2, h3, h4⟩ := m.freeze hc
            have hs : (M1.set n (.frz xs)).take M.length = M1.take M.length := List.take_set_of_le (by omega)
            obtain ⟨a4, m4⟩ := cut_ok (a.trans h3) h2
            rw [hs] at a4 m4
            exact k μ1 F2 H1 _ a4 m4 h4
          | true =>
            rw [if_pos rfl] at h
            cases h
            -- the cell moves to the place behind the caller's
            obtain ⟨c1, vs, c2, c3⟩ := m.cell n _ hc
            have old : ∀ i, i < M.length → (if i = M.length then μ1 n else μ1 i) = μ1 i := fun i hi => if_neg (by omega)
            refine k (fun i => if i = M.length then μ1 n else μ1 i) F1 H1 _ ⟨a.f, by simp [el], fun i hi => ?_, a.fr, a.dom, fun i h1 h2 => ?_, fun x o q => ?_⟩ ⟨m.sub, fun i d q => ?_, fun i j hi hj e => ?_⟩ ⟨by simp [el], ?_⟩
            · show (if i = M.length then μ1 n else μ1 i) = μ i
              rw [old i hi]; exact a.mu i hi
            · have e : i = M.length := by simp [el] at h2; omega
              show H (if i = M.length then μ1 n else μ1 i) = none
              rw [if_pos e]
              exact a.new n (by omega) hn
            · rcases a.fn x o q with z | z | ⟨i, z1, z2⟩
              · exact .inl z
              · exact .inr (.inl z)
              · by_cases hi : i < M.length
                · exact .inr (.inr ⟨i, by simp [el]; omega, by show x = (if i = M.length then μ1 n else μ1 i); rw [old i hi]; exact z2⟩)
                · exact .inr (.inl (by rw [z2]; exact a.new i (by omega) z1))
            · by_cases hi : i < M.length
              · rw [List.getElem?_append_left (by rw [el]; exact hi)] at q
                show CellR S F1 H1 (if i = M.length then μ1 n else μ1 i) d
                rw [old i hi]
                exact m2.cell i d q
              · rw [List.getElem?_append_right (by rw [el]; omega), el] at q
                have e : i = M.length := by
                  cases e : i - M.length with
                  | zero => omega
                  | succ j => rw [e] at q; simp at q
                subst e
                have q : Cell.lst xs = d := by simpa using q
                subst q
                show CellR S F1 H1 (if M.length = M.length then μ1 n else μ1 M.length) (.lst xs)
                rw [if_pos rfl]
                exact ⟨c1, vs, c2, c3⟩
            · have e : (if i = M.length then μ1 n else μ1 i) = (if j = M.length then μ1 n else μ1 j) := e
              simp [el] at hi hj
              by_cases h1 : i = M.length
              · by_cases h2 : j = M.length
                · omega
                · rw [if_pos h1, if_neg h2] at e
                  have z := m.inj n j hn (by have := a.le; omega) e
                  omega
              · by_cases h2 : j = M.length
                · rw [if_neg h1, if_pos h2] at e
                  have z := m.inj i n (by have := a.le; omega) hn e
                  omega
                · rw [if_neg h1, if_neg h2] at e
                  have := a.le
                  exact m.inj i j (by omega) (by omega) e
            · show V.ref (μ1 n) = V.ref (if M.length = M.length then μ1 n else μ1 M.length)
              rw [if_pos rfl]
        | frz xs =>
          cases h
          obtain ⟨vs, c2, c3⟩ := m.cell n _ hc
          exact k μ1 F1 H1 _ a2 m2 (rep_lst c2 c3)
        | ins c fs => cases h
        | gone => cases h
/-- a body's reading at its start -/
theorem body_start {G : Fn} {W : WX} {N : List Str} {vs : List V} {H : Hp} {Q : VK} {E : XK} (hN : G.ns = N.length) (hW : W = fun cls d _ H => E cls d H) (h : spB S C G vs H Q E) : rSs S C W G.body { nx := fun _ H' => Q .non H', rt := Q } (start N vs) H := by
  subst hW
  obtain ⟨μ, F, as, M, r, hM, hv, hd, hk⟩ := h
  rw [hN] at hd
  unfold endFn at hd
  split at hd
  · rename_i env1 M1 e
    cases hd
    refine ⟨μ, F, _, M, _, hM, env_start hv, e, fun μ1 F1 H1 σ1 a m ee => ?_⟩
    obtain ⟨a2, m2⟩ := cut_ok a m
    exact hk μ1 F1 H1 _ a2 m2 (rep_non (S := S) (F := F1))
  · rename_i v M1 e
    exact ⟨μ, F, _, M, _, hM, env_start hv, e, fun μ1 F1 H1 w a m rv => ret_ok a m rv hd hk⟩
  · rename_i x env1 M1 e
    cases hd
    refine ⟨μ, F, _, M, _, hM, env_start hv, e, fun μ1 F1 H1 σ1 cls d a m ee rx => ?_⟩
    obtain ⟨a2, m2⟩ := cut_ok a m
    exact hk μ1 F1 H1 cls d a2 m2 rx
  · cases hd
end

/-! ### the program -/
/-- the defs, at a level -/
structure RunsB (S : Sta) (C : Orc) (P : Program) (w : World) (mg : Str → Option Value) (base : Heap) (k : Nat) : Prop where
  len : ∀ g, S.fix g = true → ∀ as M r, C g as M = some r → as.length = (S.ps g).length
  r : ∀ g, GoR P w S.K mg base (L2.CX P w) k (S.fa g) (spF S C g)
  f : ∀ g, S.fix g = true → GoF P w S.K mg base (L2.CX P w) k (S.fa g) (S.fd g) (S.ps g) (fun vs H Q E => vs.length = (S.ps g).length ∧ spF S C g vs H Q E)
section
variable {P : Program} {w : World} {mg : Str → Option Value} {base : Heap} {S : Sta} {t : Tb}
/-- the context of a def's body is fit -/
theorem ctx_ok {C : Orc} {d : DefT} {l : Nat} {A : Around} {outer : List PySem.Env} {s : Shared} {H : Hp} {E : XK} {f : Addr} {cdv : Value} (ok : d.Ok t) (T : TabOk S mg t) (R : RunsB S C P w mg base l)
    (hg : A.guards = some []) (hr : Room (l + 1) (A.deeper (envOfC d.qual (defScope d.st) s.heap.objs.size f cdv))) :
    XOkS S C (fun cls d _ H => E cls d H) (cxOf (L2.CX P w) P w S.K mg base d.N d.qual (defScope d.st) f cdv A outer s H E) (d.ctx t) where
  e := {
    K := rfl
    calm := fun _ => rfl
    nd := ok.scope.nd
    N := rfl
    sc := rfl
    fn := fun _ _ => rfl
    takes := takes_of rfl rfl rfl rfl
    units := by
      have := hr.un
      show (A.deeper (envOfC d.qual (defScope d.st) s.heap.objs.size f cdv)).units + 200 < cLine
      omega
    tab := T
    runs := fun _ => ⟨hg, l, hr, ⟨R.len, R.r, R.f⟩⟩ }
  stack := rfl
  frame := rfl
  passes := passes_of rfl
theorem body_ok {C : Orc} {d : DefT} {l : Nat} {f : Addr} (ok : d.Ok t) (T : TabOk S mg t) (R : RunsB S C P w mg base l) (cdv : Value) (A : Around) (outer : List PySem.Env) (s : Shared) (H : Hp) (vs : List V) (Q : VK) (E : XK)
    (hg : A.guards = some []) (hr : Room (l + 1) (A.deeper (envOfC d.qual (defScope d.st) s.heap.objs.size f cdv))) (h : spB S C d.fn vs H Q E) :
    ∃ t, PSs (cxOf (L2.CX P w) P w S.K mg base d.N d.qual (defScope d.st) f cdv A outer s H E) (defBody d.st) t ∧ t { nx := fun _ H' => Q .non H', rt := Q } (start d.N vs) H :=
  ⟨_, (compS_both (S := S) (C := C) 200).2 _ _ _ (ctx_ok ok T R hg hr) _ _ ok.comp, body_start ok.ns rfl h⟩
/-- a def without a starred parameter -/
theorem def_fix {C : Orc} {d : DefT} {l : Nat} {f : Addr} {fd : FuncData} (ok : d.Ok t) (T : TabOk S mg t) (R : RunsB S C P w mg base l) (G : FunG S.K d f fd) (hp : d.pv = none) :
    GoF P w S.K mg base (L2.CX P w) (l + 2) f fd d.ps (fun vs H Q E => vs.length = d.ps.length ∧ spB S C d.fn vs H Q E) := by
  have sc := ok.scope
  unfold DefT.all at sc
  rw [hp] at sc
  obtain ⟨oc, od, dV, kV, doc, pm, an, cdv, ct, osl, rfl, lk, hcd, hbd⟩ := G
  exact gof_of lk hcd sc (fun vs H Q E h => h.1) fun A outer s H vs Q E hg hr h => body_ok ok T R cdv A outer s H vs Q E hg hr h.2
theorem binds_all {d : DefT} {f : Addr} {fd : FuncData} (ok : d.Ok t) (G : FunG S.K d f fd) (hp : d.pv = none) : Binds S.K fd d.ps [] := by
  obtain ⟨oc, od, dV, kV, doc, pm, an, cdv, ct, osl, rfl, lk, hcd, hbd⟩ := G
  rcases hbd with ⟨rfl, bo⟩ | ⟨_, h⟩
  · unfold BindsOk at bo
    rw [hp] at bo
    intro s us kin hl
    rw [List.append_nil]
    exact .of_eq (bo kV doc pm an cdv ct us (by simpa using hl))
  · exact h
/-- the promise of the def, over the calls below -/
def spC (S : Sta) (C : Orc) (G : Fn) : Sp := fun vs H Q E => ∃ μ F as M ws M1 r, MemR S μ F M H ∧ RepVs S F μ M.length as vs ∧ args G as M = some (ws, M1) ∧ endFn G.keep M.length (denSs C G.body (startE G.ns ws) M1) = some r ∧ KF S μ F H M.length Q E r
theorem spC_fix {C : Orc} {d : DefT} (ok : d.Ok t) (hp : d.pv = none) {vs : List V} {H : Hp} {Q : VK} {E : XK} (h : spC S C d.fn vs H Q E) : vs.length = d.ps.length ∧ spB S C d.fn vs H Q E := by
  have st := ok.star
  rw [hp] at st
  have st : d.fn.star = false := st
  obtain ⟨μ, F, as, M, ws, M1, r, hM, hv, ha, hd, hk⟩ := h
  unfold args at ha
  rw [st, if_neg (by decide)] at ha
  split at ha
  · rename_i hl
    cases ha
    exact ⟨by rw [← hv.len, hl, ok.np], μ, F, as, M, r, hM, hv, hd, hk⟩
  · cases ha
theorem def_any {C : Orc} {d : DefT} {l : Nat} {f : Addr} {fd : FuncData} (ok : d.Ok t) (T : TabOk S mg t) (R : RunsB S C P w mg base l) (G : FunG S.K d f fd) : GoR P w S.K mg base (L2.CX P w) (l + 2) f (spC S C d.fn) := by
  cases hp : d.pv with
  | none =>
    refine ((def_fix ok T R G hp).raw (binds_all ok G hp) .nil).imp fun vs H Q E h => ?_
    rw [List.append_nil]
    exact spC_fix ok hp h
  | some y =>
    have sc := ok.scope
    have st := ok.star
    unfold DefT.all at sc
    rw [hp] at sc st
    have st : d.fn.star = true := st
    obtain ⟨oc, od, dV, kV, doc, pm, an, cdv, ct, osl, rfl, lk, hcd, hbd⟩ := G
    rcases hbd with ⟨rfl, bo⟩ | ⟨h, _⟩
    rotate_left
    · rw [hp] at h; cases h
    unfold BindsOk at bo
    rw [hp] at bo
    have G1 := gor_star (CT := L2.CX P w) (P := P) (w := w) (K := S.K) (mg := mg) (base := base) (k := l + 1) (sp := spB S C d.fn) lk hcd sc StX.cxUp (bo kV doc pm an cdv ct) fun A outer s H vs Q E hg hr h => body_ok ok T R cdv A outer s H vs Q E hg hr h
    refine GoR.imp G1 fun vs H Q E h => ?_
    obtain ⟨μ, F, as, M, ws, M1, r, hM, hv, ha, hd, hk⟩ := h
    unfold args at ha
    rw [st, if_pos rfl] at ha
    split at ha
    · rename_i hl
      cases q : holds M (as.drop d.fn.np) with
      | none => rw [q] at ha; cases ha
      | some p =>
        obtain ⟨ds, M2⟩ := p
        simp only [q] at ha
        split at ha
        · rename_i hz
          cases ha
          obtain ⟨F2, m2, a2, r2⟩ := holds_ok hM (hv.drop d.fn.np) q
          have lv := hv.len
          refine ⟨vs.take d.fn.np, vs.drop d.fn.np, (List.take_append_drop _ _).symm, by rw [List.length_take, ← ok.np]; omega, by rw [← repL_len r2]; exact hz, fun p hp => ?_⟩
          have g := Grow.one m2.sub (.tup (vs.drop d.fn.np)) hp
          have el : M.length = M1.length := by
            have : ∀ {vs : List Val} {M M1 : Mem} {xs : List D}, holds M vs = some (xs, M1) → M.length = M1.length := by
              intro vs
              induction vs with
              | nil => intro M M1 xs h; cases h; rfl
              | cons v vs ih =>
                intro M M1 xs h
                unfold holds at h
                cases e1 : v.hold M with
                | none => rw [e1] at h; cases h
                | some p =>
                  obtain ⟨x, M3⟩ := p
                  rw [e1] at h
                  have l1 : M.length = M3.length := by
                    cases v with
                    | d y => cases e1; rfl
                    | rf n =>
                      rw [hold_rf] at e1
                      split at e1 <;> first | (cases e1; simp) | cases e1
                  cases e2 : holds M3 vs with
                  | none => simp only [e2] at h; cases h
                  | some p =>
                    obtain ⟨ys, M4⟩ := p
                    simp only [e2] at h
                    cases h
                    exact l1.trans (ih e2)
            exact this q
          rw [el] at hd
          refine ⟨μ, upd F2 p (.tup (vs.drop d.fn.np)), _, M1, r, m2.grow g, ((hv.take d.fn.np).aft (a2.trans g.aft)).append (repVs_1 (rep_tup (Evl.st_of upd_same) (repL_ex g.f _ r2))), hd, ?_⟩
          cases r with
          | ok v M3 => exact fun μ' F' H' w a m q => hk μ' F' H' w ((a2.trans g.aft).trans a) m q
          | ex x M3 => exact fun μ' F' H' c d a m q => hk μ' F' H' c d ((a2.trans g.aft).trans a) m q
        · cases ha
    · cases ha
/-- the defs of a text -/
structure DefsOk (S : Sta) (t : Tb) (defs : List DefT) : Prop where
  ok : ∀ d ∈ defs, d.Ok t
  fn : ∀ d ∈ defs, ∃ fd, FunG S.K d (S.fa d.g) fd
  fix : ∀ d ∈ defs, S.fix d.g = true → d.pv = none ∧ FunG S.K d (S.fa d.g) (S.fd d.g) ∧ S.ps d.g = d.ps
def tabOf (defs : List DefT) : Tab := fun g => (defs.find? fun d => d.g == g).map (·.fn)
theorem tabOf_some {defs : List DefT} {g : Nat} {G : Fn} (h : tabOf defs g = some G) : ∃ d ∈ defs, d.g = g ∧ d.fn = G := by
  unfold tabOf at h
  cases q : defs.find? (fun d => d.g == g) with
  | none => rw [q] at h; cases h
  | some d =>
    rw [q] at h
    cases h
    exact ⟨d, List.mem_of_find?_eq_some q, by simpa using List.find?_some q, rfl⟩
theorem callD_some {T : Tab} {l f : Nat} {as : List Val} {M : Mem} {r : R Val} (h : callD T (l + 1) f as M = some r) : ∃ G ws M1, T f = some G ∧ args G as M = some (ws, M1) ∧ endFn G.keep M.length (denSs (callD T l) G.body (startE G.ns ws) M1) = some r := by
  unfold callD at h
  cases q : T f with
  | none => rw [q] at h; cases h
  | some G =>
    rw [q] at h
    simp only at h
    cases q2 : args G as M with
    | none => simp only [q2] at h; cases h
    | some p =>
      obtain ⟨ws, M1⟩ := p
      simp only [q2] at h
      exact ⟨G, ws, M1, rfl, q2, h⟩
/-- every def of the program, at every level -/
theorem all_ok {defs : List DefT} (T : TabOk S mg t) (D : DefsOk S t defs) : ∀ l : Nat, RunsB S (callD (tabOf defs) l) P w mg base (2 * l) := by
  intro l
  induction l with
  | zero =>
    refine ⟨fun g hf as M r h => (by cases h), fun g A outer s H us vs Q E hg hr e0 r h => ?_, fun g hf => ⟨fun vs H Q E h => h.1, fun A outer s H as us vs Q E hg hr e0 hb r h => ?_⟩⟩
    · obtain ⟨μ, F, as, M, r, _, _, z, _⟩ := h
      cases z
    · obtain ⟨_, μ, F, as, M, r, _, _, z, _⟩ := h
      cases z
  | succ l ih =>
    have up : ∀ {g vs H Q E}, spF S (callD (tabOf defs) (l + 1)) g vs H Q E → ∃ d ∈ defs, d.g = g ∧ spC S (callD (tabOf defs) l) d.fn vs H Q E := by
      intro g vs H Q E h
      obtain ⟨μ, F, as, M, r, hM, hv, hc, hk⟩ := h
      obtain ⟨G, ws, M1, h1, h2, h3⟩ := callD_some hc
      obtain ⟨d, hd, e1, e2⟩ := tabOf_some h1
      subst e2
      exact ⟨d, hd, e1, μ, F, as, M, ws, M1, r, hM, hv, h2, h3, hk⟩
    refine ⟨fun g hf as M r h => ?_, fun g A outer s H us vs Q E hg hr e0 r h => ?_, fun g hf => ⟨fun vs H Q E h => h.1, fun A outer s H as us vs Q E hg hr e0 hb r h => ?_⟩⟩
    · obtain ⟨G, ws, M1, h1, h2, h3⟩ := callD_some h
      obtain ⟨d, hd, rfl, rfl⟩ := tabOf_some h1
      obtain ⟨p1, p2, p3⟩ := D.fix d hd hf
      have st := (D.ok d hd).star
      rw [p1] at st
      have st : d.fn.star = false := st
      unfold args at h2
      rw [st, if_neg (by decide)] at h2
      split at h2
      · rename_i hl
        rw [hl, p3, (D.ok d hd).np]
      · cases h2
    · obtain ⟨d, hd, rfl, h2⟩ := up h
      obtain ⟨fd, G⟩ := D.fn d hd
      exact def_any (D.ok d hd) T ih G A outer s H us vs Q E hg hr e0 r h2
    · obtain ⟨hl, h⟩ := h
      obtain ⟨d, hd, rfl, h2⟩ := up h
      obtain ⟨p1, p2, p3⟩ := D.fix d hd hf
      rw [p3] at hb
      exact (def_fix (D.ok d hd) T ih p2 p1).go A outer s H as us vs Q E hg hr e0 hb r (spC_fix (D.ok d hd) p1 h2)
end
end PyI

/-! PyI 12: the end of a law, by a promise that knows what is being shown around it. -/
namespace PyI
open PySem PySem.Spec PyProof.Rows L2
open Evl (Ex)
/-- the call of the law ends well -/
abbrev GoodEnd (old : Shared) (r : Result) (new : Shared) : Prop :=
  r = .ok (.ret (.bool true)) ∧ OldK old.heap new.heap ∧
    new.os = old.os ∧ AllBare new.gens
section
variable {P : Program} {w : World} {K : PySem.W.Frag} {mg mb : Str → Option Value} {CT : CXT} {k : Nat} {fa a : Addr} {fd : FuncData} {x : Str} {sp : Sp} {st : Shared} {vs : List Value} {ns : List Int}
theorem sq_not_dict {its : Array Value} {n : Nat} {es : Array DictEntry} {ep : Nat}
    (h : Data.seq its n = Data.dict es ep) : False := by cases h
theorem hid_keep {H : Hp} {L : List Value}
    (hs : st.heap.get? a = some { cls := .type "list", data := .seq L.toArray })
    (one : ∀ b, H b ≠ none → b = a) {b : Addr} {m : Str → Option Value}
    (h : st.heap.Ns b m) : (hidT st.heap H).Ns b m := by
  obtain ⟨o, es, ep, e, d, r⟩ := h
  refine ⟨o, es, ep, hidT_get e ?_, d, r⟩
  cases q : H b with
  | none => rfl
  | some u =>
    have e2 := one b (by rw [q]; simp)
    rw [e2, hs] at e
    cases e
    exact (sq_not_dict d).elim
/-- what the call leaves, once only the script may be tracked -/
theorem end_core
    (kin : K.In st.heap) (gl : st.heap.Ns mainGlobals mg) (bn : st.heap.Ns builtinsNs mb)
    (bb : ∀ y : Str, y ≠ "__name__" → mb y = bootBuiltins y)
    (lim : st.heap.NoLimit) (gn : st.gens = #[])
    (hs : st.heap.get? a = some { cls := .type "list", data := .seq vs.toArray })
    (room : Room k callerA)
    (F : ∀ base : Heap, K.In base → base.Ns mainGlobals mg →
      GoF P w K mg base CT k fa fd [x] sp)
    (bind : ∀ (s : Shared) (u : Value), BindsTo s fd ⟨[u], []⟩ [(x, u)])
    (quiet : ∀ H e s', CT [] H st (fun _ _ _ => False) e s' → False)
    (H : Hp) (only : Only H) (hok : HOk P w H st.heap)
    (one : ∀ b, H b ≠ none → b = a) (hid : H a ≠ none → K.lookup a = none)
    (want : sp [.ref a] H (fun v _ => v = .bl true) fun _ _ _ => False) :
    codeAny (model P w) callerA (.call (.ref fa) ⟨[.ref a], []⟩) (GoodEnd st) st := by
  have kb : K.In (hidT st.heap H) := by
    intro b o e
    refine hidT_get (kin b o e) ?_
    cases q : H b with
    | none => rfl
    | some u =>
      have e2 := one b (by rw [q]; simp)
      subst e2
      have e3 := hid (by rw [q]; simp)
      rw [e3] at e
      cases e
  have nb := hid_keep hs one gl
  obtain ⟨mc, lim1, lim2⟩ := lim
  have md : Mod K mg (hidT st.heap H) :=
    ⟨kb, nb, ⟨mb, hid_keep hs one bn, bb⟩,
      ⟨mc, hid_keep hs one lim1, lim2⟩⟩
  have none_in : ∀ b : Addr, b ∉ ([] : List Addr) := fun b z => by simp at z
  have e0 : Env0 P w K mg (hidT st.heap H) callerA [] st H := {
    frames := rfl
    mod := md
    bs := fun b o e => of_hidT e
    bsz := Nat.le_of_eq (hidT_size _ _)
    funs := trivial
    frf := fun b z => absurd z (none_in b)
    hok := hok
    bare := .of_eq gn }
  have run := (F _ kb nb).go callerA [] st H ⟨[.ref a], []⟩ [.ref a] [.ref a] _ _ rfl room e0
    (bind st (.ref a)) (.cons rfl .nil) want
  refine codeAny_mono run fun r s' z => ?_
  match r, z with
  | .error e, z => exact (quiet H e s' z).elim
  | .ok .next, z => exact z.elim
  | .ok .brk, z => exact z.elim
  | .ok .cont, z => exact z.elim
  | .ok (.ret u), z =>
    obtain ⟨v, H2, os, bare, un, ok2, rv, q⟩ := z
    have q : v = .bl true := q
    subst q
    have eu : u = Value.bool true := rv
    subst eu
    refine ⟨rfl, OldK.of_keep ?_, os, bare⟩
    intro b o e
    cases q : H b with
    | none => exact un.keep b o e q (fun z => absurd z (none_in b)) (none_in b)
    | some u =>
      rcases only b with z | ⟨ob, ys, z⟩
      · rw [q] at z
        cases z
      · have old := (hok b _ z).1
        have new := (ok2 b _ (un.frzs b ob _ z)).1
        rw [e] at old
        cases old
        exact new
/-- the call of the law, at the heap behind the top -/
theorem end_call
    (kin : K.In st.heap) (gl : st.heap.Ns mainGlobals mg) (bn : st.heap.Ns builtinsNs mb)
    (bb : ∀ y : Str, y ≠ "__name__" → mb y = bootBuiltins y)
    (lim : st.heap.NoLimit) (gn : st.gens = #[])
    (hs : st.heap.get? a = some { cls := .type "list", data := .seq vs.toArray })
    (its : IntsAre vs ns) (few : ns.length ≤ sizeLine) (room : Room k callerA)
    (F : ∀ base : Heap, K.In base → base.Ns mainGlobals mg →
      GoF P w K mg base CT k fa fd [x] sp)
    (bind : ∀ (s : Shared) (u : Value), BindsTo s fd ⟨[u], []⟩ [(x, u)])
    (want : ∀ H : Hp, Only H → SqL K H a (ns.map V.int) →
      sp [.ref a] H (fun v _ => v = .bl true) fun _ _ _ => False)
    (quiet : ∀ H e s', CT [] H st (fun _ _ _ => False) e s' → False) :
    codeAny (model P w) callerA (.call (.ref fa) ⟨[.ref a], []⟩) (GoodEnd st) st := by
  have rv := vals_ints its
  have core := end_core kin gl bn bb lim gn hs room F bind quiet
  cases hk : K.lookup a with
  | some o =>
    have e := kin a o hk
    rw [hs] at e
    cases e
    have on : Only fun _ => none := fun _ => .inl rfl
    have big : vs.toArray.size ≤ sizeLine := by
      rw [List.size_toArray, its.length]
      exact few
    refine core (fun _ => none) on (fun b u z => ?_) (fun b z => absurd rfl z) (fun z => absurd rfl z) ?_
    · have z : (none : Option HO) = some u := z
      cases z
    · exact want _ on (.inr ⟨_, vs.toArray, _, hk, rfl, rfl, rfl, big, by simpa using rv⟩)
  | none =>
    let fz : HO := .frz { cls := .type "list", data := .seq vs.toArray } (.lst (ns.map V.int))
    let H : Hp := fun b => if b = a then some fz else none
    have at_a : H a = some fz := if_pos rfl
    have off : ∀ b, b ≠ a → H b = none := fun b z => if_neg z
    have on : Only H := by
      intro b
      by_cases hb : b = a
      · subst hb
        exact .inr ⟨_, _, at_a⟩
      · exact .inl (off b hb)
    refine core H on ?_ ?_ (fun _ => hk) (want H on (.inl (.inr ⟨_, at_a⟩)))
    · intro b u z
      by_cases hb : b = a
      · subst hb
        rw [at_a] at z
        cases z
        exact ⟨hs, by rw [List.length_map]; exact few, vs, _, rv, hs⟩
      · rw [off b hb] at z
        cases z
    · intro b z
      by_cases hb : b = a
      · exact hb
      · exact absurd (off b hb) z
end
/-- the law's promise, of the written part alone -/
def spLaw (n : Nat) (K : PySem.W.Frag) : Sp := fun vs H Q _ => ∃ (a : Addr) (ns : List Int), vs = [.ref a] ∧ ns.length ≤ n ∧ SqL K H a (ns.map V.int) ∧ ∀ H', Q (.bl true) H'
theorem walk_up {l : PySem.W.OpenLaw} {n k : Nat} {q : Program} {loose : List Str} {XP : (Str → Option Value) → Heap → Prop} {YP : World → Heap → Prop} {d : DefRec} {K : Params → PySem.W.Frag} {x : Str} {C : Orc} {G : Fn}
    (hn : l.most = some n) (hn2 : n ≤ sizeLine) (hdf : d.params.defaults = []) (hr : Room k callerA) (hY : ∀ (w : World) (h : Heap), YP w h → (K w.params).In h)
    (F : ∀ (w : World) (mg : Str → Option Value) (fa : Addr) (h : Heap), (K w.params).In h → h.Ns mainGlobals mg → mg d.name = some (.ref fa) →
      ∃ fd : FuncData, (∀ (s : Shared) (u : Value), BindsTo s fd ⟨[u], []⟩ [(x, u)]) ∧ ∀ base : Heap, (K w.params).In base → base.Ns mainGlobals mg →
        ∃ S : Sta, S.K = K w.params ∧ GoF l.prog w (K w.params) mg base (L2.CX l.prog w) k fa fd [x] (fun vs H Q E => vs.length = 1 ∧ spB S C G vs H Q E))
    (hlaw : ∀ ns : List Int, ns.length ≤ n → endFn G.keep 0 (denSs C G.body (startE G.ns [.d (.frl (ns.map D.int))]) []) = some (.ok (.d (.bl true)) [])) :
    PySem.W.WalkO q loose XP YP l.row.toRowW d [] (fun f vs => PySem.call f vs) := by
  refine Att.attach_call hn hdf fun w s₀ s₁ mg mb fa o pm cd doc a vs ns GG Y ho hd hcd hmg hobj hints hlen hgn => ?_
  have KX := hY w _ Y
  obtain ⟨fd, hb, hF⟩ := F w mg fa _ KX GG.T.g hmg
  refine end_call (CT := L2.CX l.prog w) (sp := spLaw n (K w.params)) KX GG.T.g GG.T.b GG.T.builtins GG.T.nolimit hgn hobj hints (Nat.le_trans hlen hn2) hr (fun base p r => ?_) hb
    (fun H _ h3 => ⟨a, ns, rfl, hlen, h3, fun _ => rfl⟩) fun H e s' z => ?_
  · obtain ⟨S, hK, h3⟩ := hF base p r
    refine h3.imp fun vs H Q E hs => ?_
    obtain ⟨a, ns, rfl, hl, hS, hQ⟩ := hs
    rw [← hK] at hS
    have rl : ∀ ns : List Int, RepL S H (ns.map D.int) (ns.map V.int) := by
      intro ns
      induction ns with
      | nil => exact repL_emp
      | cons n ns ih => exact repL_mk (rep_int (S := S) (F := H)) ih
    refine ⟨rfl, fun _ => 0, H, _, [], _, ⟨Evl.Ex.refl H, fun n c e => by simp at e, fun n m h1 => by simp at h1⟩, repVs_1 (rep_frl hS (rl ns)), hlaw ns hl, fun μ' F' H' w a m r => ?_⟩
    rw [repD_bl (S := S) (F := F') r]
    exact hQ H'
  · obtain ⟨_, _, _, _, _, _, _, _, _, _, _, _, z⟩ := z
    exact z
/-- which except clause takes which error -/
theorem exm_is {K : PySem.W.Frag} {a b : Addr} {r : Bool} (h1 : PySem.W.subIn K (.ref b) (.type "BaseException") = some true) (h2 : PySem.W.isClsIn K b = true) (h3 : PySem.W.typeIn K (.ref b) = some (.type "type")) (h4 : PySem.W.subIn K (.ref a) (.ref b) = some r) :
    PySem.W.exmOne K (.ref a) (.ref b) = some r := by
  have e1 : (PySem.W.subIn K (.ref b) (.type "BaseException") == some true) = true := by rw [h1] <;> rfl
  have e2 : ((PySem.W.clsIn K b).isSome && PySem.W.typeIn K (.ref b) == some (.type "type")) = true := by
    rw [show (PySem.W.clsIn K b).isSome = true from h2, h3] <;> rfl
  unfold PySem.W.exmOne PySem.W.kitCls
  simp only [e1, e2, if_true]
  exact h4
end PyI

/-! PyI 13: words for running programs of the small language. -/
namespace PyI
open PySem
theorem call_eq {T : Tab} {f : Nat} {G : Fn} (h : T f = some G) (hs : G.star = false) (l : Nat) (vs : List Val) (M : Mem) (hn : vs.length = G.np) :
    callD T (l + 1) f vs M = endFn G.keep M.length (denSs (callD T l) G.body (startE G.ns vs) M) := by
  show (match T f with | none => none | some F => match args F vs M with | none => none | some (ws, M1) => endFn F.keep M.length (denSs (callD T l) F.body (startE F.ns ws) M1)) = _
  rw [h]
  show (match args G vs M with | none => none | some (ws, M1) => endFn G.keep M.length (denSs (callD T l) G.body (startE G.ns ws) M1)) = _
  have e : args G vs M = some (vs, M) := by
    unfold args
    rw [hs, if_neg (by decide), if_pos hn]
  rw [e]
theorem call_eqS {T : Tab} {f : Nat} {G : Fn} (h : T f = some G) (hs : G.star = true) (l : Nat) (vs : List D) (M : Mem) (hn : G.np ≤ vs.length) (hz : vs.length ≤ 10000) :
    callD T (l + 1) f (vs.map .d) M = endFn G.keep M.length (denSs (callD T l) G.body (startE G.ns ((vs.take G.np).map .d ++ [.d (.tup (vs.drop G.np))])) M) := by
  show (match T f with | none => none | some F => match args F (vs.map .d) M with | none => none | some (ws, M1) => endFn F.keep M.length (denSs (callD T l) F.body (startE F.ns ws) M1)) = _
  rw [h]
  show (match args G (vs.map .d) M with | none => none | some (ws, M1) => endFn G.keep M.length (denSs (callD T l) G.body (startE G.ns ws) M1)) = _
  have hh : ∀ xs : List D, holds M (xs.map .d) = some (xs, M) := by
    intro xs
    induction xs with
    | nil => rfl
    | cons x xs ih => rw [List.map_cons, holds_d, ih]; rfl
  have e : args G (vs.map .d) M = some ((vs.take G.np).map .d ++ [.d (.tup (vs.drop G.np))], M) := by
    unfold args
    rw [hs, if_pos rfl, if_pos (by rw [List.length_map]; exact hn), ← List.map_drop, hh]
    have hz2 : (vs.drop G.np).length ≤ sizeLine := Evl.sz_of (by rw [List.length_drop]; omega)
    simp only [hz2, if_true]
    rw [← List.map_take]
  rw [e]
/-- a loop whose body always goes on -/
theorem forL_inv {tg : Tg} {b : Env → Mem → Option Fl} (I : Env → Mem → Prop) : ∀ {xs : List D} {env : Env} {M : Mem},
    (∀ x ∈ xs, ∀ env M, I env M → ∃ env1 env2 M2, tg.bind x env = some env1 ∧ b env1 M = some (.nx env2 M2) ∧ I env2 M2) → I env M → ∃ env' M', forL tg b xs env M = some (.nx env' M') ∧ I env' M'
  | [], env, M, _, h => ⟨env, M, rfl, h⟩
  | x :: xs, env, M, hb, h => by
    obtain ⟨env1, env2, M2, e1, e2, h2⟩ := hb x List.mem_cons_self env M h
    obtain ⟨env3, M3, e3, h3⟩ := forL_inv I (xs := xs) (fun y hy => hb y (List.mem_cons_of_mem _ hy)) h2
    exact ⟨env3, M3, by simp only [forL, e1, e2, goOn_nx]; exact e3, h3⟩
/-- .. as a fold -/
theorem forL_fold {α : Type} {tg : Tg} {b : Env → Mem → Option Fl} (g : α → D → α) (E : α → Env) (M : Mem) : ∀ {xs : List D} {a : α},
    (∀ x ∈ xs, ∀ a, ∃ env1, tg.bind x (E a) = some env1 ∧ b env1 M = some (.nx (E (g a x)) M)) → forL tg b xs (E a) M = some (.nx (E (xs.foldl g a)) M)
  | [], a, _ => rfl
  | x :: xs, a, hb => by
    obtain ⟨env1, e1, e2⟩ := hb x List.mem_cons_self a
    simp only [forL, e1, e2, goOn_nx]
    exact forL_fold g E M (xs := xs) fun y hy => hb y (List.mem_cons_of_mem _ hy)
theorem forL_nil {tg : Tg} {b : Env → Mem → Option Fl} {env : Env} {M : Mem} : forL tg b [] env M = some (.nx env M) := rfl
theorem forL_cons {tg : Tg} {b : Env → Mem → Option Fl} {x : D} {xs : List D} {env env1 : Env} {M : Mem} (h : tg.bind x env = some env1) : forL tg b (x :: xs) env M = goOn (b env1 M) (forL tg b xs) := by
  simp only [forL, h]
/-- == of data of one sort is = -/
class Enc (α : Type) where
  enc : α → D
  pd : α → PyData
  toP : ∀ a, (enc a).toP = some (pd a)
  lay : ∀ a, (pd a).canLay0 = true
  dep : Nat
  depth : ∀ a, (pd a).depth ≤ dep
  eqv : ∀ a b, PyData.eqv (pd a) (pd b) = true ↔ a = b
theorem eqD_enc {α : Type} [E : Enc α] [DecidableEq α] (a b : α) (h : E.dep ≤ 64) : eqD (Enc.enc a) (Enc.enc b) = some (decide (a = b)) := by
  have sh : ∀ a : α, SeqAt.shaped (E.pd a) = true := fun a => by
    unfold SeqAt.shaped
    rw [E.lay a, Bool.true_and]
    exact decide_eq_true (Nat.le_trans (E.depth a) h)
  unfold eqD
  simp only [E.toP, sh, and_self, if_true]
  congr 1
  by_cases q : a = b
  · rw [decide_eq_true q]
    exact (E.eqv a b).mpr q
  · rw [decide_eq_false q]
    cases e : PyData.eqv (E.pd a) (E.pd b) with
    | false => rfl
    | true => exact absurd ((E.eqv a b).mp e) q
instance : Enc Int where
  enc := .int
  pd := .int
  toP := fun _ => by simp only [D.toP]
  lay := fun _ => by simp only [PyData.canLay0]
  dep := 0
  depth := fun _ => by simp only [PyData.depth]; omega
  eqv := fun a b => by simp only [PyData.eqv, beq_iff_eq]
instance : Enc Bool where
  enc := .bl
  pd := .bool
  toP := fun _ => by simp only [D.toP]
  lay := fun _ => by simp only [PyData.canLay0]
  dep := 0
  depth := fun _ => by simp only [PyData.depth]; omega
  eqv := fun a b => by simp only [PyData.eqv, beq_iff_eq]
theorem toPs_map {α : Type} [E : Enc α] (xs : List α) : toPs (xs.map E.enc) = some (xs.map E.pd) := by
  induction xs with
  | nil => simp only [List.map_nil, toPs]
  | cons x xs ih => simp only [List.map_cons, toPs, E.toP, ih]
theorem layAll_map {α : Type} [E : Enc α] (xs : List α) : PyData.canLayAll0 (xs.map E.pd) = true := by
  induction xs with
  | nil => simp only [List.map_nil, PyData.canLayAll0]
  | cons x xs ih => simp only [List.map_cons, PyData.canLayAll0, E.lay, ih, Bool.and_self]
theorem depAll_map {α : Type} [E : Enc α] (xs : List α) : PyData.depthAll (xs.map E.pd) ≤ E.dep := by
  induction xs with
  | nil => simp only [List.map_nil, PyData.depthAll]; omega
  | cons x xs ih =>
    simp only [List.map_cons, PyData.depthAll]
    have := E.depth x
    omega
theorem eqvAll_map {α : Type} [E : Enc α] : ∀ (xs ys : List α), PyData.eqvAll (xs.map E.pd) (ys.map E.pd) = true ↔ xs = ys
  | [], [] => by simp only [List.map_nil, PyData.eqvAll]
  | [], _ :: _ => by simp [PyData.eqvAll]
  | _ :: _, [] => by simp [PyData.eqvAll]
  | x :: xs, y :: ys => by
    simp only [List.map_cons, PyData.eqvAll, Bool.and_eq_true, E.eqv, eqvAll_map xs ys, List.cons.injEq]
instance {α : Type} [E : Enc α] : Enc (List α) where
  enc := fun xs => .lst (xs.map E.enc)
  pd := fun xs => .list (xs.map E.pd)
  toP := fun xs => by simp only [D.toP, toPs_map, Option.map_some]
  lay := fun xs => by simp only [PyData.canLay0, layAll_map]
  dep := E.dep + 1
  depth := fun xs => by
    simp only [PyData.depth]
    have := depAll_map (E := E) xs
    omega
  eqv := fun xs ys => by simp only [PyData.eqv, eqvAll_map, List.cons.injEq]
instance {α β : Type} [E : Enc α] [G : Enc β] : Enc (α × β) where
  enc := fun p => .tup [E.enc p.1, G.enc p.2]
  pd := fun p => .tuple [E.pd p.1, G.pd p.2]
  toP := fun p => by simp only [D.toP, toPs, E.toP, G.toP, Option.map_some]
  lay := fun p => by simp only [PyData.canLay0, PyData.canLayAll0, E.lay, G.lay, Bool.and_self]
  dep := max E.dep G.dep + 1
  depth := fun p => by
    simp only [PyData.depth, PyData.depthAll]
    have := E.depth p.1
    have := G.depth p.2
    omega
  eqv := fun p q => by simp only [PyData.eqv, PyData.eqvAll, Bool.and_eq_true, E.eqv, G.eqv, and_true, Prod.ext_iff]
@[simp] theorem eqD_int (a b : Int) : eqD (.int a) (.int b) = some (decide (a = b)) := eqD_enc (α := Int) a b (by decide)
@[simp] theorem eqD_bl (a b : Bool) : eqD (.bl a) (.bl b) = some (decide (a = b)) := eqD_enc (α := Bool) a b (by decide)
theorem eqD_ints (a b : List Int) : eqD (.lst (a.map .int)) (.lst (b.map .int)) = some (decide (a = b)) := eqD_enc (α := List Int) a b (by decide)
theorem eqD_bls (a b : List Bool) : eqD (.lst (a.map .bl)) (.lst (b.map .bl)) = some (decide (a = b)) := eqD_enc (α := List Bool) a b (by decide)
/-- the script -/
theorem eqD_frl (a b : List Int) : eqD (.frl (a.map .int)) (.lst (b.map .int)) = some (decide (a = b)) := eqD_enc (α := List Int) a b (by decide)
/-- Python's remainder -/
def pmod (i j : Int) : Int := if 0 < j then i % j else i.fmod j
theorem opD_mod (i j : Int) (h : j ≠ 0) : opD .mod [.int i, .int j] = some (.int (pmod i j)) := by
  show (if 0 < j then some (D.int (i % j)) else if j ≠ 0 then some (.int (i.fmod j)) else none) = _
  unfold pmod
  split
  · rfl
  · first | rfl | rw [if_pos h]
theorem pmod_lt (i j : Int) (h : j ≠ 0) : (pmod i j).natAbs < j.natAbs := by
  unfold pmod
  split
  · rename_i q
    have h1 := Int.emod_nonneg i h
    have h2 := Int.emod_lt_of_pos i q
    omega
  · rename_i q
    have hneg : j < 0 := by omega
    have e := Int.fmod_eq_emod (a := i) (b := j)
    have h1 := Int.emod_nonneg i h
    have h2 := Int.emod_lt_of_pos i (b := -j) (by omega)
    rw [Int.emod_neg] at h2
    rw [e]
    split
    · rename_i z
      rcases z with z | z
      · omega
      · have := Int.emod_eq_zero_of_dvd z
        omega
    · omega

/-! the operations, to be reckoned with -/
@[simp] theorem opD_add (i j : Int) : opD .add [.int i, .int j] = some (.int (i + j)) := rfl
@[simp] theorem opD_sub (i j : Int) : opD .sub [.int i, .int j] = some (.int (i - j)) := rfl
@[simp] theorem opD_neg (i : Int) : opD .neg [.int i] = some (.int (-i)) := rfl
@[simp] theorem opD_lt (i j : Int) : opD .lt [.int i, .int j] = some (.bl (decide (i < j))) := rfl
@[simp] theorem opD_le (i j : Int) : opD .le [.int i, .int j] = some (.bl (decide (i ≤ j))) := rfl
@[simp] theorem opD_gt (i j : Int) : opD .gt [.int i, .int j] = some (.bl (decide (j < i))) := rfl
@[simp] theorem opD_ge (i j : Int) : opD .ge [.int i, .int j] = some (.bl (decide (j ≤ i))) := rfl
@[simp] theorem opD_eq (x y : D) : opD .eq [x, y] = (eqD x y).map .bl := rfl
@[simp] theorem opD_ne (x y : D) : opD .ne [x, y] = (eqD x y).map fun b => .bl (!b) := rfl
@[simp] theorem opD_is (x y : D) : opD .is [x, y] = (isD x y).map .bl := rfl
@[simp] theorem opD_isnot (x y : D) : opD .isnot [x, y] = (isD x y).map fun b => .bl (!b) := rfl
@[simp] theorem opD_ixl (xs : List D) (i : Int) : opD .ix [.lst xs, .int i] = L2.atI xs i := rfl
@[simp] theorem opD_ixt (xs : List D) (i : Int) : opD .ix [.tup xs, .int i] = L2.atI xs i := rfl
@[simp] theorem opD_ixf (xs : List D) (i : Int) : opD .ix [.frl xs, .int i] = L2.atI xs i := rfl
@[simp] theorem opD_lenl (xs : List D) : opD .len [.lst xs] = some (.int xs.length) := rfl
@[simp] theorem opD_lent (xs : List D) : opD .len [.tup xs] = some (.int xs.length) := rfl
@[simp] theorem opD_lenf (xs : List D) : opD .len [.frl xs] = some (.int xs.length) := rfl
@[simp] theorem opD_abs (i : Int) : opD .abs [.int i] = some (.int (if i < 0 then -i else i)) := rfl
@[simp] theorem opD_max (i j : Int) : opD .max2 [.int i, .int j] = some (.int (if j > i then j else i)) := rfl
@[simp] theorem opD_min (i j : Int) : opD .min2 [.int i, .int j] = some (.int (if j < i then j else i)) := rfl
@[simp] theorem opD_inti (i : Int) : opD .int [.int i] = some (.int i) := rfl
@[simp] theorem opD_intb (b : Bool) : opD .int [.bl b] = some (.int (if b then 1 else 0)) := rfl
@[simp] theorem opD_isi (t : List Ty) (x : D) : opD (.isi t) [x] = (tyAny t x).map .bl := rfl
@[simp] theorem opD_emp : opD .emp [] = some .emp := rfl
theorem opD_tupS (xs : List D) (h : xs.length ≤ 1000) : opD .tup xs = some (.tup xs) := if_pos (Evl.sz_of (Nat.le_trans h (by decide)))
theorem opD_lstS (xs : List D) (h : xs.length ≤ 1000) : opD .lst xs = some (.lst xs) := if_pos (Evl.sz_of (Nat.le_trans h (by decide)))
@[simp] theorem opD_lst0 : opD .lst [] = some (.lst []) := opD_lstS _ (by decide)
@[simp] theorem opD_lst1 (a : D) : opD .lst [a] = some (.lst [a]) := opD_lstS _ (by simp)
@[simp] theorem opD_lst2 (a b : D) : opD .lst [a, b] = some (.lst [a, b]) := opD_lstS _ (by simp)
@[simp] theorem opD_lst3 (a b c : D) : opD .lst [a, b, c] = some (.lst [a, b, c]) := opD_lstS _ (by simp)
@[simp] theorem opD_lst4 (a b c d : D) : opD .lst [a, b, c, d] = some (.lst [a, b, c, d]) := opD_lstS _ (by simp)
@[simp] theorem opD_lst5 (a b c d e : D) : opD .lst [a, b, c, d, e] = some (.lst [a, b, c, d, e]) := opD_lstS _ (by simp)
@[simp] theorem opD_lst6 (a b c d e f : D) : opD .lst [a, b, c, d, e, f] = some (.lst [a, b, c, d, e, f]) := opD_lstS _ (by simp)
@[simp] theorem opD_lst7 (a b c d e f g : D) : opD .lst [a, b, c, d, e, f, g] = some (.lst [a, b, c, d, e, f, g]) := opD_lstS _ (by simp)
@[simp] theorem opD_tup1 (a : D) : opD .tup [a] = some (.tup [a]) := opD_tupS _ (by simp)
@[simp] theorem opD_tup2 (a b : D) : opD .tup [a, b] = some (.tup [a, b]) := opD_tupS _ (by simp)
@[simp] theorem opD_tup3 (a b c : D) : opD .tup [a, b, c] = some (.tup [a, b, c]) := opD_tupS _ (by simp)
@[simp] theorem opD_tup4 (a b c d : D) : opD .tup [a, b, c, d] = some (.tup [a, b, c, d]) := opD_tupS _ (by simp)
@[simp] theorem opD_tup6 (a b c d e f : D) : opD .tup [a, b, c, d, e, f] = some (.tup [a, b, c, d, e, f]) := opD_tupS _ (by simp)
/-- one factor small -/
theorem opD_mulS (i j : Int) (h : (-(2 ^ 64) < i ∧ i < 2 ^ 64) ∨ (-(2 ^ 64) < j ∧ j < 2 ^ 64)) : opD .mul [.int i, .int j] = some (.int (i * j)) := by
  refine if_pos ?_
  unfold mulOk
  simp only [Bool.or_eq_true, Bool.and_eq_true, decide_eq_true_eq]
  exact .inl h
theorem log2_small {i : Nat} {k : Nat} (h : i < 2 ^ k) (hk : 0 < k) : i.log2 < k := by
  by_cases z : i = 0
  · subst z; simpa using hk
  · exact (Nat.log2_lt z).mpr h
/-- both factors of some size -/
theorem opD_mulW (i j : Int) (hi : i.natAbs < 2 ^ 400000) (hj : j.natAbs < 2 ^ 400000) : opD .mul [.int i, .int j] = some (.int (i * j)) := by
  refine if_pos ?_
  unfold mulOk
  have h1 := log2_small hi (by decide)
  have h2 := log2_small hj (by decide)
  simp only [Bool.or_eq_true, Bool.and_eq_true, decide_eq_true_eq]
  exact .inr (by omega)
theorem opD_fdivS (i j : Int) (h : 0 < j) (hj : j.natAbs < 2 ^ 8000) : opD .fdiv [.int i, .int j] = some (.int (i / j)) := by
  refine if_pos ?_
  unfold divOk
  have h2 := log2_small hj (by decide)
  simp only [Bool.and_eq_true, decide_eq_true_eq]
  exact ⟨h, by omega⟩
theorem opD_modP (i j : Int) (h : 0 < j) : opD .mod [.int i, .int j] = some (.int (i % j)) := if_pos h
theorem opD_powS (i j : Int) (h : 0 ≤ j) (h2 : j ≤ 1000000) (h3 : i.natAbs < 2 ^ 64) : opD .pow [.int i, .int j] = some (.int (i ^ j.toNat)) := by
  refine if_pos ?_
  unfold powOk
  simp only [Bool.and_eq_true, decide_eq_true_eq]
  exact ⟨⟨h, h2⟩, h3⟩
@[simp] theorem runOp_d (o : Op) (xs : List D) (M : Mem) : runOp o (xs.map .d) M = (opD o xs).map fun x => .ok (.d x) M := by
  have h1 : ∀ xs : List D, holds M (xs.map .d) = some (xs, M) := by
    intro xs
    induction xs with
    | nil => rfl
    | cons x xs ih => rw [List.map_cons, holds_d, ih]; rfl
  have h2 : ∀ xs : List D, sees M (xs.map .d) = some xs := by
    intro xs
    induction xs with
    | nil => rfl
    | cons x xs ih => rw [List.map_cons, sees_d, ih]; rfl
  unfold runOp
  rw [h1, h2]
  cases o.keeps <;> rfl
@[simp] theorem runOp0 (o : Op) (M : Mem) : runOp o [] M = (opD o []).map fun x => .ok (.d x) M := runOp_d o [] M
@[simp] theorem runOp1 (o : Op) (x : D) (M : Mem) : runOp o [.d x] M = (opD o [x]).map fun x => .ok (.d x) M := runOp_d o [x] M
@[simp] theorem runOp2 (o : Op) (x y : D) (M : Mem) : runOp o [.d x, .d y] M = (opD o [x, y]).map fun x => .ok (.d x) M := runOp_d o [x, y] M
@[simp] theorem runOp3 (o : Op) (x y z : D) (M : Mem) : runOp o [.d x, .d y, .d z] M = (opD o [x, y, z]).map fun x => .ok (.d x) M := runOp_d o [x, y, z] M
@[simp] theorem runOp4 (o : Op) (x y z u : D) (M : Mem) : runOp o [.d x, .d y, .d z, .d u] M = (opD o [x, y, z, u]).map fun x => .ok (.d x) M := runOp_d o [x, y, z, u] M
@[simp] theorem runOp5 (o : Op) (x y z u v : D) (M : Mem) : runOp o [.d x, .d y, .d z, .d u, .d v] M = (opD o [x, y, z, u, v]).map fun x => .ok (.d x) M := runOp_d o [x, y, z, u, v] M
/-- an element of a written list -/
theorem runOp_ixr {n : Nat} {M : Mem} {xs : List D} (i : Int) (h : M[n]? = some (.lst xs)) : runOp .ix [.rf n, .d (.int i)] M = (L2.atI xs i).map fun x => .ok (.d x) M := by
  unfold runOp
  rw [if_neg (by decide)]
  have e : sees M [.rf n, .d (.int i)] = some [.lst xs, .int i] := by
    have e1 : Val.see M (.rf n) = some (.lst xs) := by
      show (match M[n]? with | some (.lst xs) => some (D.lst xs) | some (.frz xs) => some (.lst xs) | _ => none) = _
      rw [h]
    show (match Val.see M (.rf n), sees M [.d (.int i)] with | some x, some xs => some (x :: xs) | _, _ => none) = _
    rw [e1]
    rfl
  rw [e]
  rfl
theorem atI_0 {α : Type} (a : α) (xs : List α) : L2.atI (a :: xs) 0 = some a := L2.atI_nat (j := 0) rfl
theorem atI_1 {α : Type} (a b : α) (xs : List α) : L2.atI (a :: b :: xs) 1 = some b := L2.atI_nat (j := 1) rfl
theorem atI_some {α : Type} (xs : List α) (i : Int) (h0 : 0 ≤ i) (h1 : i < xs.length) : ∃ a, a ∈ xs ∧ L2.atI xs i = some a := by
  have hl : i.toNat < xs.length := by omega
  refine ⟨xs[i.toNat], List.getElem_mem hl, ?_⟩
  have e := L2.atI_nat (xs := xs) (j := i.toNat) (List.getElem?_eq_getElem hl)
  rwa [Int.toNat_of_nonneg h0] at e

/-! what each form means, one row each (all arguments there) -/
section
variable (C : Orc) (env : Env) (M : Mem)
@[simp] theorem eE_cst (x : D) : denE C (.cst x) env M = some (.ok (.d x) M) := by first | rfl | simp only [denE]
@[simp] theorem eE_var (i : Nat) : denE C (.var i) env M = match env[i]? with | some (some v) => some (.ok v M) | _ => none := by first | rfl | simp only [denE]
@[simp] theorem eE_op (o : Op) (es : IEs) : denE C (.op o es) env M = bnd (denEs C es env M) (runOp o) := by first | rfl | simp only [denE]
@[simp] theorem eE_mk (o : Op) (es : IEs) : denE C (.mk o es) env M = bnd (denEs C es env M) (runMk o) := by first | rfl | simp only [denE]
@[simp] theorem eE_call (f : Nat) (es : IEs) : denE C (.call f es) env M = bnd (denEs C es env M) (C f) := by first | rfl | simp only [denE]
@[simp] theorem eE_not (a : IE) : denE C (.not a) env M = bnd (denE C a env M) fun v M1 => match asB v with | some c => some (.ok (.d (.bl (!c))) M1) | none => none := by first | rfl | simp only [denE]
@[simp] theorem eE_and (a b : IE) : denE C (.and a b) env M = bnd (denB C a env M) fun c M1 => if c = true then bnd (denB C b env M1) (fun c M2 => some (.ok (.d (.bl c)) M2)) else some (.ok (.d (.bl false)) M1) := by
  unfold denB
  rw [denE]
  cases denE C a env M with
  | none => rfl
  | some r =>
    cases r with
    | ex x M1 => rfl
    | ok v M1 =>
      simp only [bnd_ok]
      cases asB v with
      | none => rfl
      | some c =>
        cases c with
        | false => rfl
        | true =>
          simp only [bnd_ok, if_true]
          cases denE C b env M1 with
          | none => rfl
          | some r2 =>
            cases r2 with
            | ex x M2 => rfl
            | ok w M2 =>
              simp only [bnd_ok]
              cases asB w <;> rfl
@[simp] theorem eE_or (a b : IE) : denE C (.or a b) env M = bnd (denB C a env M) fun c M1 => if c = true then some (.ok (.d (.bl true)) M1) else bnd (denB C b env M1) (fun c M2 => some (.ok (.d (.bl c)) M2)) := by
  unfold denB
  rw [denE]
  cases denE C a env M with
  | none => rfl
  | some r =>
    cases r with
    | ex x M1 => rfl
    | ok v M1 =>
      simp only [bnd_ok]
      cases asB v with
      | none => rfl
      | some c =>
        cases c with
        | true => rfl
        | false =>
          simp only [bnd_ok, Bool.false_eq_true, if_false]
          cases denE C b env M1 with
          | none => rfl
          | some r2 =>
            cases r2 with
            | ex x M2 => rfl
            | ok w M2 =>
              simp only [bnd_ok]
              cases asB w <;> rfl
@[simp] theorem eE_ife (c a b : IE) : denE C (.ife c a b) env M = bnd (denB C c env M) fun t M1 => if t = true then denE C a env M1 else denE C b env M1 := denE_ife
@[simp] theorem eEs_nil : denEs C .nil env M = some (.ok [] M) := by first | rfl | simp only [denEs]
@[simp] theorem eEs_cons (e : IE) (es : IEs) : denEs C (.cons e es) env M = bnd (denE C e env M) fun v M1 => bnd (denEs C es env M1) fun vs M2 => some (.ok (v :: vs) M2) := by first | rfl | simp only [denEs]
@[simp] theorem eT_nil : denT C .nil env M = some (.ok true M) := by first | rfl | simp only [denT]
@[simp] theorem eT_one (e : IE) : denT C (.cons e .nil) env M = denB C e env M := by first | rfl | simp only [denT]
@[simp] theorem eI_seq (e : IE) : denI C (.seq e) env M = bnd (denE C e env M) runSeq := by first | rfl | simp only [denI]
@[simp] theorem eI_range (es : IEs) : denI C (.range es) env M = bnd (denEs C es env M) runRange := by first | rfl | simp only [denI]
/-- tests -/
@[simp] theorem eB_not (a : IE) : denB C (.not a) env M = bnd (denB C a env M) fun b M1 => some (.ok (!b) M1) := denB_not
@[simp] theorem eB_and (a b : IE) : denB C (.and a b) env M = bnd (denB C a env M) fun c M1 => if c = true then denB C b env M1 else some (.ok false M1) := denB_and
@[simp] theorem eB_or (a b : IE) : denB C (.or a b) env M = bnd (denB C a env M) fun c M1 => if c = true then some (.ok true M1) else denB C b env M1 := denB_or
def toB (v : Val) (M : Mem) : Option (R Bool) := match asB v with | some b => some (.ok b M) | none => none
@[simp] theorem toB_bl (b : Bool) : toB (.d (.bl b)) M = some (.ok b M) := rfl
@[simp] theorem eB_op (o : Op) (es : IEs) : denB C (.op o es) env M = bnd (denE C (.op o es) env M) toB := rfl
@[simp] theorem eB_call (f : Nat) (es : IEs) : denB C (.call f es) env M = bnd (denE C (.call f es) env M) toB := rfl
@[simp] theorem eB_var (i : Nat) : denB C (.var i) env M = bnd (denE C (.var i) env M) toB := rfl
@[simp] theorem eB_cst (x : D) : denB C (.cst x) env M = bnd (denE C (.cst x) env M) toB := rfl
@[simp] theorem eB_ife (c a b : IE) : denB C (.ife c a b) env M = bnd (denE C (.ife c a b) env M) toB := rfl
/-- statements -/
@[simp] theorem eS_set (i : Nat) (e : IE) : denS C (.set (.nm i) e) env M = bndS (denE C e env M) env fun v M1 => some (.nx (env.set i (some v)) M1) := by first | rfl | simp only [denS]
@[simp] theorem eS_setT (ts : List Tg) (e : IE) : denS C (.set (.tp ts) e) env M = bndS (denE C e env M) env fun v M1 => match v.see M1 with
    | some x => match (Tg.tp ts).bind x env with
      | some env1 => some (.nx env1 M1)
      | none => none
    | none => none := by first | rfl | simp only [denS]
@[simp] theorem eS_par (is : List Nat) (es : IEs) : denS C (.par is es) env M = bndS (denEs C es env M) env fun vs M1 => match parSet is vs env with
    | some env1 => some (.nx env1 M1)
    | none => none := by first | rfl | simp only [denS]
@[simp] theorem eS_setix (o i e : IE) : denS C (.setix o i e) env M = bndS (denE C e env M) env fun v M1 => bndS (denE C o env M1) env fun ov M2 => bndS (denE C i env M2) env fun iv M3 => match setAt ov iv v M3 with
    | some M4 => some (.nx env M4)
    | none => none := by first | rfl | simp only [denS]
@[simp] theorem eS_drop (e : IE) : denS C (.drop e) env M = bndS (denE C e env M) env fun _ M1 => some (.nx env M1) := by first | rfl | simp only [denS]
@[simp] theorem eS_ret (e : IE) : denS C (.ret e) env M = bndS (denE C e env M) env fun v M1 => some (.rt v M1) := by first | rfl | simp only [denS]
@[simp] theorem eS_retN : denS C .retN env M = some (.rt (.d .non) M) := by first | rfl | simp only [denS]
@[simp] theorem eS_pass : denS C .pass env M = some (.nx env M) := by first | rfl | simp only [denS]
@[simp] theorem eS_brk : denS C .brk env M = some (.bk env M) := by first | rfl | simp only [denS]
@[simp] theorem eS_cont : denS C .cont env M = some (.ct env M) := by first | rfl | simp only [denS]
@[simp] theorem eS_ife (c : IE) (a b : ISs) : denS C (.ife c a b) env M = bndS (denB C c env M) env fun t M1 => if t = true then denSs C a env M1 else denSs C b env M1 := by first | rfl | simp only [denS]
@[simp] theorem eS_whl (c : IE) (b : ISs) : denS C (.whl c b) env M = whl (denB C c) (denSs C b) env M := by first | rfl | simp only [denS]
@[simp] theorem eS_for (tg : Tg) (it : II) (b : ISs) : denS C (.for tg it b) env M = bndS (denI C it env M) env fun xs M1 => forL tg (denSs C b) xs env M1 := by first | rfl | simp only [denS]
@[simp] theorem eS_raise (c : Nat) : denS C (.raise c .nil) env M = some (.ex ⟨c, []⟩ env M) := by simp only [denS, denEs, bndS_ok, holds_nil]
@[simp] theorem eS_tryn (b : ISs) (hs : IHs) : denS C (.tryn b hs) env M = match denSs C b env M with
    | some (.ex x env1 M1) => denH C hs x env1 M1
    | r => r := by first | rfl | simp only [denS]
@[simp] theorem eSs_nil : denSs C .nil env M = some (.nx env M) := by first | rfl | simp only [denSs]
@[simp] theorem eSs_cons (s : IS) (ss : ISs) : denSs C (.cons s ss) env M = seqF (denS C s env M) (denSs C ss) := by first | rfl | simp only [denSs]
@[simp] theorem eF_nx (keep : Bool) (k : Nat) : endFn keep k (some (.nx env M)) = some (.ok (.d .non) (M.take k)) := rfl
@[simp] theorem eF_rtd (keep : Bool) (k : Nat) (x : D) : endFn keep k (some (.rt (.d x) M)) = some (.ok (.d x) (M.take k)) := rfl
@[simp] theorem eF_ex (keep : Bool) (k : Nat) (x : Xn) : endFn keep k (some (.ex x env M)) = some (.ex x (M.take k)) := rfl
@[simp] theorem rS_l (xs : List D) : runSeq (.d (.lst xs)) M = some (.ok xs M) := rfl
@[simp] theorem rS_t (xs : List D) : runSeq (.d (.tup xs)) M = some (.ok xs M) := rfl
@[simp] theorem rS_f (xs : List D) : runSeq (.d (.frl xs)) M = some (.ok xs M) := rfl
theorem rR_1 (j : Int) (h : 0 ≤ j) (h2 : j < 2 ^ 62) : runRange [.d (.int j)] M = some (.ok (rngL 0 j) M) := if_pos (by
  unfold rngOk
  simp only [Bool.and_eq_true, decide_eq_true_eq]
  omega)
@[simp] theorem tgN (i : Nat) (x : D) : Tg.bind (.nm i) x env = some (env.set i (some (.d x))) := by simp only [Tg.bind]
@[simp] theorem tgT (ts : List Tg) (xs : List D) : Tg.bind (.tp ts) (.tup xs) env = bindL ts xs env := by simp only [Tg.bind]
@[simp] theorem tgL (ts : List Tg) (xs : List D) : Tg.bind (.tp ts) (.lst xs) env = bindL ts xs env := by simp only [Tg.bind]
@[simp] theorem tgs0 : PyI.bindL [] [] env = some env := by simp only [PyI.bindL]
@[simp] theorem tgsC (t : Tg) (ts : List Tg) (x : D) (xs : List D) : PyI.bindL (t :: ts) (x :: xs) env = match t.bind x env with | some env1 => PyI.bindL ts xs env1 | none => none := by
  first
    | (simp only [PyI.bindL]; done)
    | (simp only [PyI.bindL]; cases t.bind x env <;> rfl)
end
end PyI

/-! PyI 14: what nearly every law needs: drawing cells, comprehensions, bounds by bits, Euclid -/
namespace PyI
open PySem
/-- of so many bits -/
def Sm (k : Nat) (i : Int) : Prop := i.natAbs < 2 ^ k
theorem Sm.le {k l : Nat} {i : Int} (h : Sm k i) (hl : k ≤ l) : Sm l i := Nat.lt_of_lt_of_le h (Nat.pow_le_pow_right (by decide) hl)
theorem Sm.mul {k l : Nat} {i j : Int} (h : Sm k i) (h2 : Sm l j) : Sm (k + l) (i * j) := by
  unfold Sm at *
  rw [Int.natAbs_mul, Nat.pow_add]
  have p : 0 < 2 ^ l := Nat.pow_pos (by decide)
  exact Nat.mul_lt_mul_of_lt_of_le h (Nat.le_of_lt h2) p
theorem Sm.div {k : Nat} {i : Int} (h : Sm k i) (m : Int) : Sm k (i / m) := Nat.lt_of_le_of_lt (Int.natAbs_ediv_le_natAbs i m) h
theorem Sm.mod {k : Nat} {m : Int} (h : Sm k m) (i : Int) (hm : 0 < m) : Sm k (i % m) := by
  have h1 := Int.emod_nonneg i (by omega : m ≠ 0)
  have h2 := Int.emod_lt_of_pos i hm
  unfold Sm at *
  omega
theorem Sm.add {k : Nat} {i j : Int} (h : Sm k i) (h2 : Sm k j) : Sm (k + 1) (i + j) := by
  unfold Sm at *
  rw [Nat.pow_succ]
  omega
theorem Sm.pred {k : Nat} {i : Int} (h : Sm k i) (h0 : 0 ≤ i) : Sm (k + 1) (i - 1) := by
  unfold Sm at *
  rw [Nat.pow_succ]
  omega
theorem opD_mulB {k l : Nat} {i j : Int} (hi : Sm k i) (hj : Sm l j) (hk : k ≤ 400000) (hl : l ≤ 400000) : opD .mul [.int i, .int j] = some (.int (i * j)) := opD_mulW i j (hi.le hk) (hj.le hl)
theorem divOk_of {k : Nat} {m : Int} (h : 0 < m) (hm : Sm k m) (hk : k ≤ 8000) : divOk m = true := by
  unfold divOk
  have h2 := log2_small (hm.le hk) (by decide)
  simp only [Bool.and_eq_true, decide_eq_true_eq]
  exact ⟨h, by omega⟩
theorem fdivO (i j : Int) (h : divOk j = true) : opD .fdiv [.int i, .int j] = some (.int (i / j)) := if_pos h
/-- a drawing cell -/
def dm (M : Mem) (n : Nat) (c s : Int) : Mem := M.set n (.lst [.int c, .int s])
theorem dm_get {M : Mem} {n : Nat} (h : n < M.length) (c s : Int) : (dm M n c s)[n]? = some (.lst [.int c, .int s]) := by
  unfold dm
  rw [List.getElem?_set_self h]
theorem dm_len (M : Mem) (n : Nat) (c s : Int) : (dm M n c s).length = M.length := List.length_set
theorem dm_take (M : Mem) (n : Nat) (c s : Int) : (dm M n c s).take M.length = dm M n c s := List.take_of_length_le (Nat.le_of_eq (dm_len M n c s))
theorem dm_take2 (M : Mem) (n : Nat) (c s c2 s2 : Int) : (dm M n c s).take (dm M n c2 s2).length = dm M n c s := by rw [dm_len, dm_take]
theorem dm_ix0 {M : Mem} {n : Nat} (h : n < M.length) (c s : Int) : runOp .ix [.rf n, .d (.int 0)] (dm M n c s) = some (.ok (.d (.int c)) (dm M n c s)) := by
  rw [runOp_ixr 0 (dm_get h c s)]
  rfl
theorem dm_ix1 {M : Mem} {n : Nat} (h : n < M.length) (c s : Int) : runOp .ix [.rf n, .d (.int 1)] (dm M n c s) = some (.ok (.d (.int s)) (dm M n c s)) := by
  rw [runOp_ixr 1 (dm_get h c s)]
  rfl
theorem dm_set0 {M : Mem} {n : Nat} (h : n < M.length) (c s c2 : Int) : setAt (.rf n) (.d (.int 0)) (.d (.int c2)) (dm M n c s) = some (dm M n c2 s) := by
  unfold setAt
  simp only [hold_d, dm_get h]
  show some ((dm M n c s).set n _) = _
  unfold dm
  rw [List.set_set]
  rfl
theorem dm_set1 {M : Mem} {n : Nat} (h : n < M.length) (c s s2 : Int) : setAt (.rf n) (.d (.int 1)) (.d (.int s2)) (dm M n c s) = some (dm M n c s2) := by
  unfold setAt
  simp only [hold_d, dm_get h]
  show some ((dm M n c s).set n _) = _
  unfold dm
  rw [List.set_set]
  rfl
theorem dm_end (M : Mem) (c s : Int) : M ++ [.lst [.int c, .int s]] = dm (M ++ [.gone]) M.length c s := by
  unfold dm
  simp
theorem stp {C : Orc} {s : IS} {ss : ISs} {env env1 : Env} {M M1 : Mem} (h : denS C s env M = some (.nx env1 M1)) : denSs C (.cons s ss) env M = denSs C ss env1 M1 := by
  rw [eSs_cons, h, seqF_nx]
def hdS : ISs → IS
  | .cons s _ => s
  | .nil => .pass
def tlS : ISs → ISs
  | .cons _ ss => ss
  | .nil => .nil
theorem pow9 : opD .pow [.int 10, .int 9] = some (.int 1000000000) := by
  rw [opD_powS _ _ (by decide) (by decide) (by decide)]
  rfl
theorem pow5 : opD .pow [.int 10, .int 5] = some (.int 100000) := by
  rw [opD_powS _ _ (by decide) (by decide) (by decide)]
  rfl
theorem pow15 : opD .pow [.int 10, .int 15] = some (.int 1000000000000000) := by
  rw [opD_powS _ _ (by decide) (by decide) (by decide)]
  rfl
theorem pow18 : opD .pow [.int 10, .int 18] = some (.int 1000000000000000000) := by
  rw [opD_powS _ _ (by decide) (by decide) (by decide)]
  rfl
theorem pow24 : opD .pow [.int 10, .int 24] = some (.int 1000000000000000000000000) := by
  rw [opD_powS _ _ (by decide) (by decide) (by decide)]
  rfl
/-- a comprehension, kept shut -/
noncomputable def runLc (C : Orc) (tg : Tg) (own : List Nat) (cs : IEs) (e : IE) (env : Env) (xs : List D) (M : Mem) : Option (R (List D)) := lcL tg (wipeE env own) (denT C cs) (fun env M => bnd (denE C e env M) runHold) xs [] M
@[simp] theorem eE_lc (C : Orc) (env : Env) (M : Mem) (tg : Tg) (own : List Nat) (it : II) (cs : IEs) (e : IE) : denE C (.lc tg own it cs e) env M = bnd (denI C it env M) fun xs M1 =>
      bnd (runLc C tg own cs e env xs M1) fun ys M2 => some (.ok (.d (.lst ys)) M2) := by first | rfl | (rw [denE]; rfl) | simp only [denE, runLc]
theorem lcL_inv {tg : Tg} {env : Env} {c : Env → Mem → Option (R Bool)} {e : Env → Mem → Option (R D)} (I : Mem → Prop) (P : D → Prop) : ∀ {xs acc : List D} {M : Mem},
    (∀ x ∈ xs, ∀ M, I M → ∃ env1 M1 y M2, tg.bind x env = some env1 ∧ c env1 M = some (.ok true M1) ∧ e env1 M1 = some (.ok y M2) ∧ P y ∧ I M2) → I M → acc.length + xs.length ≤ 1000000 →
    ∃ ys M', lcL tg env c e xs acc M = some (.ok (acc ++ ys) M') ∧ I M' ∧ ys.length = xs.length ∧ ∀ y ∈ ys, P y
  | [], acc, M, _, h, _ => ⟨[], M, by rw [List.append_nil]; rfl, h, rfl, by simp⟩
  | x :: xs, acc, M, hb, h, hl => by
    rw [List.length_cons] at hl
    obtain ⟨env1, M1, y, M2, e1, e2, e3, py, h2⟩ := hb x List.mem_cons_self M h
    obtain ⟨ys, M3, e4, h3, l3, p3⟩ := lcL_inv I P (xs := xs) (acc := acc ++ [y]) (fun z hz => hb z (List.mem_cons_of_mem _ hz)) h2 (by simp; omega)
    have hz : acc.length < sizeLine := by
      have : sizeLine = 16777216 := by decide
      omega
    refine ⟨y :: ys, M3, ?_, h3, by simp [l3], ?_⟩
    · simp only [lcL, e1, e2, e3, hz, if_true]
      rw [e4, List.append_assoc]
      rfl
    · intro z hz
      rcases List.mem_cons.mp hz with rfl | hz
      · exact py
      · exact p3 z hz
theorem lcL_map {tg : Tg} {env : Env} {c : Env → Mem → Option (R Bool)} {e : Env → Mem → Option (R D)} (g : D → D) (M : Mem) : ∀ {xs acc : List D},
    (∀ x ∈ xs, ∃ env1, tg.bind x env = some env1 ∧ c env1 M = some (.ok true M) ∧ e env1 M = some (.ok (g x) M)) → acc.length + xs.length ≤ 1000000 →
    lcL tg env c e xs acc M = some (.ok (acc ++ xs.map g) M)
  | [], acc, _, _ => by rw [List.map_nil, List.append_nil]; rfl
  | x :: xs, acc, hb, hl => by
    rw [List.length_cons] at hl
    obtain ⟨env1, e1, e2, e3⟩ := hb x List.mem_cons_self
    have e4 := lcL_map g M (xs := xs) (acc := acc ++ [g x]) (fun z hz => hb z (List.mem_cons_of_mem _ hz)) (by simp; omega)
    have hz : acc.length < sizeLine := by
      have : sizeLine = 16777216 := by decide
      omega
    simp only [lcL, e1, e2, e3, hz, if_true]
    rw [e4, List.append_assoc]
    rfl
theorem runLc_inv {C : Orc} {tg : Tg} {own : List Nat} {e : IE} {env : Env} (I : Mem → Prop) (P : D → Prop) {xs : List D} {M : Mem}
    (hb : ∀ x ∈ xs, ∀ M, I M → ∃ env1 y M2, tg.bind x (wipeE env own) = some env1 ∧ denE C e env1 M = some (.ok (.d y) M2) ∧ P y ∧ I M2) (h : I M) (hl : xs.length ≤ 1000000) :
    ∃ ys M', runLc C tg own .nil e env xs M = some (.ok ys M') ∧ I M' ∧ ys.length = xs.length ∧ ∀ y ∈ ys, P y := by
  obtain ⟨ys, M', e1, h1⟩ := lcL_inv (tg := tg) (env := wipeE env own) (c := denT C .nil) (e := fun env M => bnd (denE C e env M) runHold) I P (xs := xs) (acc := []) (M := M) (fun x hx M h => by
    obtain ⟨env1, y, M2, e1, e2, py, h2⟩ := hb x hx M h
    exact ⟨env1, M, y, M2, e1, eT_nil _ _ _, by rw [e2]; rfl, py, h2⟩) h (by simpa using hl)
  exact ⟨ys, M', by rw [List.nil_append] at e1; exact e1, h1⟩
theorem runLc_map {C : Orc} {tg : Tg} {own : List Nat} {e : IE} {env : Env} (g : D → D) (M : Mem) {xs : List D}
    (hb : ∀ x ∈ xs, ∃ env1, tg.bind x (wipeE env own) = some env1 ∧ denE C e env1 M = some (.ok (.d (g x)) M)) (hl : xs.length ≤ 1000000) :
    runLc C tg own .nil e env xs M = some (.ok (xs.map g) M) := by
  have e1 := lcL_map (tg := tg) (env := wipeE env own) (c := denT C .nil) (e := fun env M => bnd (denE C e env M) runHold) g M (xs := xs) (acc := []) (fun x hx => by
    obtain ⟨env1, e1, e2⟩ := hb x hx
    exact ⟨env1, e1, eT_nil _ _ _, by rw [e2]; rfl⟩) (by simpa using hl)
  rw [List.nil_append] at e1
  exact e1
theorem ints_of {ys : List D} (h : ∀ y ∈ ys, ∃ i : Int, y = .int i) : ∃ is : List Int, ys = is.map .int := by
  induction ys with
  | nil => exact ⟨[], rfl⟩
  | cons y ys ih =>
    obtain ⟨is, rfl⟩ := ih fun z hz => h z (List.mem_cons_of_mem _ hz)
    obtain ⟨i, rfl⟩ := h y List.mem_cons_self
    exact ⟨i :: is, rfl⟩
theorem rep_flat {α : Type} (x : α) (n : Nat) : (List.replicate n [x]).flatten = List.replicate n x := by
  induction n with
  | zero => rfl
  | succ n ih => rw [List.replicate_succ, List.flatten_cons, ih, List.replicate_succ]; rfl
theorem opD_rep (x : D) (n : Nat) (h : n ≤ 1000000) : opD .mul [.lst [x], .int n] = some (.lst (List.replicate n x)) := by
  simp only [opD]
  have sz : sizeLine = 16777216 := PySem.sizeLine_eq
  have c : -(2 ^ 63) ≤ (n : Int) ∧ (n : Int) < 2 ^ 63 ∧ [x].length * (n : Int).toNat ≤ sizeLine := by
    refine ⟨by omega, by omega, ?_⟩
    rw [sz, List.length_singleton]
    omega
  rw [if_pos c, Int.toNat_natCast, rep_flat]
theorem rngL_mem {j : Int} {x : D} (h : x ∈ rngL 0 j) : ∃ k : Nat, x = .int k ∧ (k : Int) < j := by
  unfold rngL at h
  obtain ⟨k, hk, rfl⟩ := List.mem_map.mp h
  rw [List.mem_range] at hk
  exact ⟨k, by simp, by omega⟩
theorem intsOf_map : ∀ is : List Int, intsOf (is.map .int) = some is
  | [] => rfl
  | i :: is => by
    show (intsOf (is.map .int)).map (i :: ·) = _
    rw [intsOf_map is]
    rfl
theorem opD_sum (is : List Int) : opD .sum [.lst (is.map .int)] = some (.int is.sum) := by
  show (intsOf (is.map .int)).map (fun ns => D.int ns.sum) = _
  rw [intsOf_map]
  rfl
def bodyOf : IS → ISs
  | .for _ _ b => b
  | .whl _ b => b
  | _ => .nil
def condOf : IS → IE
  | .whl c _ => c
  | .ife c _ _ => c
  | _ => .cst .non
def isI : D → Bool
  | .int _ => true
  | _ => false
theorem runMk_d (o : Op) (xs ys : List D) (M : Mem) (h : opD o xs = some (.lst ys)) : runMk o (xs.map .d) M = some (.ok (.rf M.length) (M ++ [.lst ys])) := by
  have h1 : ∀ xs : List D, holds M (xs.map .d) = some (xs, M) := by
    intro xs
    induction xs with
    | nil => rfl
    | cons x xs ih => rw [List.map_cons, holds_d, ih]; rfl
  unfold runMk
  rw [h1]
  simp only [h]
theorem runMk2 (a b : D) (M : Mem) : runMk .lst [.d a, .d b] M = some (.ok (.rf M.length) (M ++ [.lst [a, b]])) := runMk_d .lst [a, b] _ M (opD_lst2 a b)
theorem endK (k : Nat) (M : Mem) (xs : List D) (hk : k = M.length) : endFn true k (some (.rt (.rf M.length) (M ++ [.lst xs]))) = some (.ok (.rf M.length) (M ++ [.lst xs])) := by
  subst hk
  simp [endFn, endRet]
theorem eqD_frl_lst0 (xs : List Int) : eqD (.frl (xs.map D.int)) (.lst []) = some (decide (xs = [])) := by
  have := eqD_frl xs []
  simpa using this
theorem f0 : eqD (.frl []) (.lst []) = some true := eqD_frl_lst0 []
/-- the cell of a drawing, and what stands below it -/
def Dr (M0 : Mem) (n : Nat) (M : Mem) : Prop := ∃ c s : Int, 0 ≤ c ∧ 0 ≤ s ∧ M = dm M0 n c s
def bDraws : ISs := (.cons (.set (.nm 2) (.cst (.int (0)))) (.cons (.ife (.op .ne (.cons (.var 0) (.cons (.op .lst .nil) .nil))) (.cons (.set (.nm 2) (.op .ix (.cons (.var 0) (.cons (.op .mod (.cons (.var 1) (.cons (.op .len (.cons (.var 0) .nil)) .nil))) .nil)))) .nil) .nil) (.cons (.ife (.op .ge (.cons (.var 1) (.cons (.op .len (.cons (.var 0) .nil)) .nil))) (.cons (.set (.nm 2) (.op .mod (.cons (.var 2) (.cons (.cst (.int (1000003))) .nil)))) .nil) .nil) (.cons (.set (.nm 3) (.op .mod (.cons (.op .mul (.cons (.op .add (.cons (.op .add (.cons (.op .mod (.cons (.var 2) (.cons (.cst (.int (2147483629))) .nil))) (.cons (.op .mul (.cons (.cst (.int (104729))) (.cons (.var 1) .nil))) .nil))) (.cons (.cst (.int (11))) .nil))) (.cons (.cst (.int (48271))) .nil))) (.cons (.cst (.int (2147483647))) .nil)))) (.cons (.ret (.mk .lst (.cons (.op .mul (.cons (.var 2) (.cons (.op .int (.cons (.op .ge (.cons (.var 2) (.cons (.op .pow (.cons (.cst (.int (10))) (.cons (.cst (.int (18))) .nil))) .nil))) .nil)) .nil))) (.cons (.var 3) .nil)))) .nil)))))
def bDraw : ISs := (.cons (.ife (.op .gt (.cons (.op .ix (.cons (.var 0) (.cons (.cst (.int (0))) .nil))) (.cons (.cst (.int (0))) .nil))) (.cons (.set (.nm 2) (.op .mod (.cons (.op .ix (.cons (.var 0) (.cons (.cst (.int (0))) .nil))) (.cons (.var 1) .nil)))) (.cons (.setix (.var 0) (.cst (.int (0))) (.op .fdiv (.cons (.op .ix (.cons (.var 0) (.cons (.cst (.int (0))) .nil))) (.cons (.var 1) .nil)))) (.cons (.ret (.var 2)) .nil))) .nil) (.cons (.setix (.var 0) (.cst (.int (1))) (.op .mod (.cons (.op .add (.cons (.op .mul (.cons (.op .ix (.cons (.var 0) (.cons (.cst (.int (1))) .nil))) (.cons (.cst (.int (48271))) .nil))) (.cons (.cst (.int (11))) .nil))) (.cons (.cst (.int (2147483647))) .nil)))) (.cons (.ret (.op .mod (.cons (.op .fdiv (.cons (.op .mod (.cons (.op .mul (.cons (.op .ix (.cons (.var 0) (.cons (.cst (.int (1))) .nil))) (.cons (.op .ix (.cons (.var 0) (.cons (.cst (.int (1))) .nil))) .nil))) (.cons (.cst (.int (2147483629))) .nil))) (.cons (.cst (.int (64))) .nil))) (.cons (.var 1) .nil)))) .nil)))
def bInteger (i : Nat) : ISs := (.cons (.set (.nm 1) (.op .ix (.cons (.op .lst (.cons (.cst (.int (7))) (.cons (.cst (.int (7))) (.cons (.cst (.int (1001))) (.cons (.op .pow (.cons (.cst (.int (10))) (.cons (.cst (.int (9))) .nil))) (.cons (.op .pow (.cons (.cst (.int (10))) (.cons (.cst (.int (24))) .nil))) .nil)))))) (.cons (.call i (.cons (.var 0) (.cons (.cst (.int (5))) .nil))) .nil)))) (.cons (.set (.nm 2) (.op .add (.cons (.op .mul (.cons (.call i (.cons (.var 0) (.cons (.op .pow (.cons (.cst (.int (10))) (.cons (.cst (.int (9))) .nil))) .nil))) (.cons (.op .pow (.cons (.cst (.int (10))) (.cons (.cst (.int (15))) .nil))) .nil))) (.cons (.call i (.cons (.var 0) (.cons (.op .pow (.cons (.cst (.int (10))) (.cons (.cst (.int (9))) .nil))) .nil))) .nil)))) (.cons (.set (.nm 3) (.op .ix (.cons (.op .lst (.cons (.call i (.cons (.var 0) (.cons (.op .pow (.cons (.cst (.int (10))) (.cons (.cst (.int (9))) .nil))) .nil))) (.cons (.var 2) .nil))) (.cons (.op .int (.cons (.op .eq (.cons (.var 1) (.cons (.op .pow (.cons (.cst (.int (10))) (.cons (.cst (.int (24))) .nil))) .nil))) .nil)) .nil)))) (.cons (.ret (.op .mul (.cons (.op .mod (.cons (.var 3) (.cons (.var 1) .nil))) (.cons (.op .ix (.cons (.op .lst (.cons (.cst (.int (1))) (.cons (.op .neg (.cons (.cst (.int (1))) .nil)) .nil))) (.cons (.call i (.cons (.var 0) (.cons (.cst (.int (2))) .nil))) .nil))) .nil)))) .nil))))
def bEuc : ISs := (.cons (.whl (.op .ne (.cons (.var 1) (.cons (.cst (.int (0))) .nil))) (.cons (.par [0, 1] (.cons (.var 1) (.cons (.op .mod (.cons (.var 0) (.cons (.var 1) .nil))) .nil))) .nil)) (.cons (.ret (.op .abs (.cons (.var 0) .nil))) .nil))
def fDraws : Fn := { np := 2, star := false, ns := 4, body := bDraws, keep := true }
def fDraw : Fn := { np := 2, star := false, ns := 3, body := bDraw, keep := false }
def fInteger (i : Nat) : Fn := { np := 1, star := false, ns := 4, body := bInteger i, keep := false }
def fEuc : Fn := { np := 2, star := false, ns := 2, body := bEuc, keep := false }
theorem c5 {T : Tab} {f : Nat} (hT : T f = some fDraw) (l : Nat) {M : Mem} {n : Nat} (hn : n < M.length) (c s u : Int) (hc : 0 ≤ c) (hs : 0 ≤ s) (hu : 0 < u) (hu2 : divOk u = true) : ∃ r c' s' : Int, 0 ≤ r ∧ r < u ∧ 0 ≤ c' ∧ 0 ≤ s' ∧
    callD T (l + 1) f [.rf n, .d (.int u)] (dm M n c s) = some (.ok (.d (.int r)) (dm M n c' s')) := by
  rw [call_eq hT rfl l _ (dm M n c s) rfl]
  by_cases h : 0 < c
  · refine ⟨c % u, c / u, s, Int.emod_nonneg _ (by omega), Int.emod_lt_of_pos _ hu, Int.ediv_nonneg hc (by omega), hs, ?_⟩
    simp [fDraw, bDraw, startE, dm_ix0 hn, h, opD_modP _ _ hu, fdivO _ _ hu2, dm_set0 hn, dm_take2]
  · have hm : ∀ x : Int, 0 ≤ x % 2147483647 ∧ x % 2147483647 < 2147483647 := fun x => ⟨Int.emod_nonneg _ (by decide), Int.emod_lt_of_pos _ (by decide)⟩
    obtain ⟨s2, e2⟩ : ∃ s2, s2 = (s * 48271 + 11) % 2147483647 := ⟨_, rfl⟩
    have h2 := hm (s * 48271 + 11)
    rw [← e2] at h2
    refine ⟨s2 * s2 % 2147483629 / 64 % u, c, s2, Int.emod_nonneg _ (by omega), Int.emod_lt_of_pos _ hu, hc, h2.1, ?_⟩
    simp [fDraw, bDraw, startE, dm_ix0 hn, dm_ix1 hn, h, opD_modP _ _ hu, opD_modP _ 2147483647 (by decide), opD_modP _ 2147483629 (by decide), opD_mulS s 48271 (.inr (by decide)), opD_mulS s2 s2 (by omega), fdivO _ 64 (by decide), dm_set1 hn, dm_take2, ← e2]
theorem c4b (T : Tab) (l : Nat) (v : Option Val) (xs : List Int) (k : Nat) (c1 : Int) (M : Mem) : ∃ c s : Int, 0 ≤ c ∧ 0 ≤ s ∧
    endFn true M.length (denSs (callD T l) (tlS (tlS (tlS bDraws))) [v, some (.d (.int k)), some (.d (.int c1)), none] M) = some (.ok (.rf M.length) (dm (M ++ [.gone]) M.length c s)) := by
  have m1 : ∀ x : Int, 0 ≤ x % 2147483647 := fun x => Int.emod_nonneg _ (by decide)
  refine ⟨c1 * (if 1000000000000000000 ≤ c1 then 1 else 0), _, ?_, m1 ((c1 % 2147483629 + 104729 * k + 11) * 48271), ?_⟩
  · split <;> omega
  · rw [← dm_end]
    have w : (if decide (1000000000000000000 ≤ c1) = true then (1 : Int) else 0) = if 1000000000000000000 ≤ c1 then 1 else 0 := by simp
    have w2 := opD_mulS c1 (if 1000000000000000000 ≤ c1 then 1 else 0) (.inr (by split <;> decide))
    simp [bDraws, tlS, opD_modP _ 2147483629 (by decide), opD_modP _ 2147483647 (by decide), opD_mulS 104729 _ (.inl (by decide)), opD_mulS _ 48271 (.inr (by decide)), pow18, w2]
    rw [runMk2, bndS_ok, seqF_rt]
    exact endK _ _ _ rfl
theorem c4 {T : Tab} {f : Nat} (hT : T f = some fDraws) (l : Nat) (xs : List Int) (k : Nat) (M : Mem) (hx : xs.length < 1000000) : ∃ c s : Int, 0 ≤ c ∧ 0 ≤ s ∧
    callD T (l + 1) f [.d (.frl (xs.map D.int)), .d (.int k)] M = some (.ok (.rf M.length) (dm (M ++ [.gone]) M.length c s)) := by
  rw [call_eq hT rfl l _ M rfl]
  show ∃ c s : Int, 0 ≤ c ∧ 0 ≤ s ∧ endFn true M.length (denSs (callD T l) (.cons (hdS bDraws) (.cons (hdS (tlS bDraws)) (.cons (hdS (tlS (tlS bDraws))) (tlS (tlS (tlS bDraws)))))) [some (.d (.frl (xs.map D.int))), some (.d (.int k)), none, none] M) = _
  rw [stp (env1 := [some (.d (.frl (xs.map D.int))), some (.d (.int k)), some (.d (.int 0)), none]) (M1 := M) (by simp [bDraws, hdS])]
  obtain ⟨c1, e1⟩ : ∃ c1 : Int, denS (callD T l) (hdS (tlS bDraws)) [some (.d (.frl (xs.map D.int))), some (.d (.int k)), some (.d (.int 0)), none] M =
      some (.nx [some (.d (.frl (xs.map D.int))), some (.d (.int k)), some (.d (.int c1)), none] M) := by
    by_cases h : xs = []
    · refine ⟨0, ?_⟩
      subst h
      simp [bDraws, hdS, tlS, f0]
    · have hl : 0 < xs.length := by
        cases xs with
        | nil => exact absurd rfl h
        | cons _ _ => simp
      obtain ⟨a, ha, e⟩ := atI_some (xs.map D.int) ((k : Int) % xs.length) (Int.emod_nonneg _ (by omega)) (by rw [List.length_map]; exact Int.emod_lt_of_pos _ (by omega))
      obtain ⟨x, -, rfl⟩ := List.mem_map.mp ha
      refine ⟨x, ?_⟩
      simp [bDraws, hdS, tlS, eqD_frl_lst0, h, opD_modP _ (xs.length : Int) (by omega), e]
  rw [stp e1]
  obtain ⟨c2, e2⟩ : ∃ c2 : Int, denS (callD T l) (hdS (tlS (tlS bDraws))) [some (.d (.frl (xs.map D.int))), some (.d (.int k)), some (.d (.int c1)), none] M =
      some (.nx [some (.d (.frl (xs.map D.int))), some (.d (.int k)), some (.d (.int c2)), none] M) := by
    by_cases h : (xs.length : Int) ≤ k
    · refine ⟨c1 % 1000003, ?_⟩
      simp [bDraws, hdS, tlS, h, opD_modP _ 1000003 (by decide)]
    · refine ⟨c1, ?_⟩
      simp [bDraws, hdS, tlS, h]
  rw [stp e2]
  exact c4b T l _ xs k c2 M
theorem c6 {T : Tab} {fd f : Nat} (hD : T fd = some fDraw) (hT : T f = some (fInteger fd)) (l : Nat) {M : Mem} {n : Nat} (hn : n < M.length) (c s : Int) (hc : 0 ≤ c) (hs : 0 ≤ s) : ∃ v c' s' : Int, Sm 100 v ∧ 0 ≤ c' ∧ 0 ≤ s' ∧
    callD T (l + 2) f [.rf n] (dm M n c s) = some (.ok (.d (.int v)) (dm M n c' s')) := by
  rw [call_eq hT rfl (l + 1) _ (dm M n c s) rfl]
  obtain ⟨r1, ca, sa, p1, q1, hca, hsa, e1⟩ := c5 hD l hn c s 5 hc hs (by decide) (by decide)
  obtain ⟨r2, cb, sb, p2, q2, hcb, hsb, e2⟩ := c5 hD l hn ca sa (1000000000) hca hsa (by decide) (by decide)
  obtain ⟨r3, cc, sc, p3, q3, hcc, hsc, e3⟩ := c5 hD l hn cb sb (1000000000) hcb hsb (by decide) (by decide)
  obtain ⟨r4, cd, sd, p4, q4, hcd, hsd, e4⟩ := c5 hD l hn cc sc (1000000000) hcc hsc (by decide) (by decide)
  obtain ⟨r5, ce, se, p5, q5, hce, hse, e5⟩ := c5 hD l hn cd sd 2 hcd hsd (by decide) (by decide)
  obtain ⟨a, ha, ea⟩ := atI_some [D.int 7, .int 7, .int 1001, .int (1000000000), .int (1000000000000000000000000)] r1 p1 (by simpa using q1)
  obtain ⟨z, ⟨hz, hz2⟩, rfl⟩ : ∃ z : Int, (0 < z ∧ z ≤ 1000000000000000000000000) ∧ a = .int z := by
    simp only [List.mem_cons, List.not_mem_nil, or_false] at ha
    rcases ha with rfl | rfl | rfl | rfl | rfl <;> exact ⟨_, by decide, rfl⟩
  obtain ⟨b, hb, eb⟩ := atI_some [D.int 1, .int (-1)] r5 p5 (by simpa using q5)
  obtain ⟨g, hg, rfl⟩ : ∃ g : Int, (-2 < g ∧ g < 2) ∧ b = .int g := by
    simp only [List.mem_cons, List.not_mem_nil, or_false] at hb
    rcases hb with rfl | rfl <;> exact ⟨_, by decide, rfl⟩
  obtain ⟨d, hd, ed⟩ := atI_some [D.int r4, .int (r2 * 1000000000000000 + r3)] (if z = 1000000000000000000000000 then 1 else 0) (by split <;> decide) (by split <;> simp)
  obtain ⟨y, rfl⟩ : ∃ y : Int, d = .int y := by
    simp only [List.mem_cons, List.not_mem_nil, or_false] at hd
    rcases hd with rfl | rfl <;> exact ⟨_, rfl⟩
  refine ⟨y % z * g, ce, se, ?_, hce, hse, ?_⟩
  · have h0 := Int.emod_nonneg y (by omega : z ≠ 0)
    have h1 := Int.emod_lt_of_pos y hz
    unfold Sm
    have q : g = -1 ∨ g = 0 ∨ g = 1 := by omega
    rcases q with rfl | rfl | rfl
    · rw [Int.mul_neg, Int.mul_one]; omega
    · rw [Int.mul_zero]; decide
    · rw [Int.mul_one]; omega
  have eq : eqD (.int z) (.int (1000000000000000000000000)) = some (decide (z = 1000000000000000000000000)) := eqD_int z 1000000000000000000000000
  simp [fInteger, bInteger, startE, pow9, pow15, pow24, e1, ea, e2, e3, e4, e5, eb, ed, opD_mulS _ (1000000000000000) (.inr (by decide)), opD_modP _ _ hz, opD_mulS _ g (.inr (by omega)), eq, dm_take2]
/-! the same, said of the memory alone -/
theorem draws_ok {T : Tab} {f : Nat} (hT : T f = some fDraws) (l : Nat) (xs : List Int) (k : Nat) (M : Mem) (hx : xs.length < 1000000) : ∃ M1, Dr (M ++ [.gone]) M.length M1 ∧
    callD T (l + 1) f [.d (.frl (xs.map D.int)), .d (.int k)] M = some (.ok (.rf M.length) M1) := by
  obtain ⟨c, s, hc, hs, e⟩ := c4 hT l xs k M hx
  exact ⟨_, ⟨c, s, hc, hs, rfl⟩, e⟩
theorem draw_ok {T : Tab} {f : Nat} (hT : T f = some fDraw) (l : Nat) {M0 M : Mem} {n : Nat} (hn : n < M0.length) (h : Dr M0 n M) (u : Int) (hu : 0 < u) (hu2 : divOk u = true) : ∃ (r : Int) (M1 : Mem), 0 ≤ r ∧ r < u ∧ Dr M0 n M1 ∧
    callD T (l + 1) f [.rf n, .d (.int u)] M = some (.ok (.d (.int r)) M1) := by
  obtain ⟨c, s, hc, hs, rfl⟩ := h
  obtain ⟨r, c', s', h1, h2, h3, h4, e⟩ := c5 hT l hn c s u hc hs hu hu2
  exact ⟨r, _, h1, h2, ⟨c', s', h3, h4, rfl⟩, e⟩
theorem integer_ok {T : Tab} {fd f : Nat} (hD : T fd = some fDraw) (hT : T f = some (fInteger fd)) (l : Nat) {M0 M : Mem} {n : Nat} (hn : n < M0.length) (h : Dr M0 n M) : ∃ (v : Int) (M1 : Mem), Sm 100 v ∧ Dr M0 n M1 ∧
    callD T (l + 2) f [.rf n] M = some (.ok (.d (.int v)) M1) := by
  obtain ⟨c, s, hc, hs, rfl⟩ := h
  obtain ⟨v, c', s', h1, h3, h4, e⟩ := c6 hD hT l hn c s hc hs
  exact ⟨v, _, h1, ⟨c', s', h3, h4, rfl⟩, e⟩
theorem Dr.len {M0 M : Mem} {n : Nat} (h : Dr M0 n M) : M.length = M0.length := by
  obtain ⟨c, s, -, -, rfl⟩ := h
  exact dm_len _ _ _ _
/-- Euclid's way -/
def euc (a b : Int) : Int := if h : b = 0 then (if a < 0 then -a else a) else euc b (pmod a b)
termination_by b.natAbs
decreasing_by exact pmod_lt a b h
theorem euc_zero (a : Int) : euc a 0 = if a < 0 then -a else a := by rw [euc, dif_pos rfl]
theorem euc_step (a b : Int) (h : b ≠ 0) : euc a b = euc b (pmod a b) := by rw [euc, dif_neg h]
theorem euc_nn (n : Nat) : ∀ a b : Int, b.natAbs ≤ n → 0 ≤ euc a b := by
  induction n with
  | zero =>
    intro a b h
    have : b = 0 := by omega
    subst this
    rw [euc_zero]
    split <;> omega
  | succ n ih =>
    intro a b h
    by_cases z : b = 0
    · subst z
      rw [euc_zero]
      split <;> omega
    · rw [euc_step a b z]
      have := pmod_lt a b z
      exact ih b _ (by omega)
theorem euc_pos (a b : Int) : 0 ≤ euc a b := euc_nn _ a b (Nat.le_refl _)
theorem euc_loop (C : Orc) (n : Nat) : ∀ (a b : Int) (M : Mem), b.natAbs ≤ n → ∃ a' : Int, whl (denB C (.op .ne (.cons (.var 1) (.cons (.cst (.int (0))) .nil)))) (denSs C (.cons (.par [0, 1] (.cons (.var 1) (.cons (.op .mod (.cons (.var 0) (.cons (.var 1) .nil))) .nil))) .nil)) [some (.d (.int a)), some (.d (.int b))] M =
    some (.nx [some (.d (.int a')), some (.d (.int 0))] M) ∧ (if a' < 0 then -a' else a') = euc a b := by
  induction n with
  | zero =>
    intro a b M h
    have : b = 0 := by omega
    subst this
    refine ⟨a, ?_, (euc_zero a).symm⟩
    rw [whl_eq]
    simp []
  | succ n ih =>
    intro a b M h
    by_cases z : b = 0
    · subst z
      refine ⟨a, ?_, (euc_zero a).symm⟩
      rw [whl_eq]
      simp []
    · have := pmod_lt a b z
      obtain ⟨a', h1, h2⟩ := ih b (pmod a b) M (by omega)
      refine ⟨a', ?_, by rw [euc_step a b z]; exact h2⟩
      rw [whl_eq]
      simp [z, opD_mod a b z, parSet]
      exact h1
theorem euc_ok {T : Tab} {f : Nat} (hT : T f = some fEuc) (l : Nat) (a b : Int) (M : Mem) : callD T (l + 1) f [.d (.int a), .d (.int b)] M = some (.ok (.d (.int (euc a b))) M) := by
  rw [call_eq hT rfl l _ M rfl]
  obtain ⟨a', h1, h2⟩ := euc_loop (callD T l) b.natAbs a b M (Nat.le_refl _)
  simp [fEuc, bEuc, startE]
  rw [h1]
  simp [h2]
theorem euc_gcd (n : Nat) : ∀ a b : Int, b.natAbs ≤ n → euc a b = Int.gcd a b := by
  induction n with
  | zero =>
    intro a b h
    have : b = 0 := by omega
    subst this
    rw [euc_zero, Int.gcd_zero_right]
    split <;> omega
  | succ n ih =>
    intro a b h
    by_cases z : b = 0
    · subst z
      rw [euc_zero, Int.gcd_zero_right]
      split <;> omega
    · have p := pmod_lt a b z
      rw [euc_step a b z, ih b _ (by omega)]
      have q : ∃ d : Int, pmod a b = a - b * d := by
        unfold pmod
        split
        · exact ⟨a / b, Int.emod_def a b⟩
        · exact ⟨a.fdiv b, Int.fmod_def a b⟩
      obtain ⟨d, q⟩ := q
      rw [q, Int.gcd_comm b, Int.gcd_sub_mul_left_left]
section
variable (C : Orc) (env : Env) (M : Mem)
@[simp] theorem eI_enum (es : IEs) : denI C (.enum es) env M = bnd (denEs C es env M) runEnum := by first | rfl | simp only [denI]
@[simp] theorem eI_zip (es : IEs) : denI C (.zip es) env M = bnd (denEs C es env M) runZip := by first | rfl | simp only [denI]
@[simp] theorem rEn_l (xs : List D) : runEnum [.d (.lst xs)] M = some (.ok (enumL 0 xs) M) := rfl
@[simp] theorem rZi_l (xs ys : List D) : runZip [.d (.lst xs), .d (.lst ys)] M = some (.ok (zipL xs ys) M) := rfl
@[simp] theorem rZi_t (xs ys : List D) : runZip [.d (.tup xs), .d (.tup ys)] M = some (.ok (zipL xs ys) M) := rfl
end
/-- texts that can be laid -/
abbrev Tx := { x : Str // PyData.strOk x = true }
instance : Enc Tx where
  enc := fun x => .str x.1
  pd := fun x => .str x.1
  toP := fun _ => by simp only [D.toP]
  lay := fun a => by simp only [PyData.canLay0, a.2]
  dep := 0
  depth := fun _ => by simp only [PyData.depth]; omega
  eqv := fun a b => by
    simp only [PyData.eqv, beq_iff_eq]
    exact ⟨fun h => Subtype.ext h, fun h => congrArg _ h⟩
theorem eqD_str (a b : Str) (ha : PyData.strOk a = true) (hb : PyData.strOk b = true) : eqD (.str a) (.str b) = some (decide (a = b)) := by
  have := eqD_enc (α := Tx) ⟨a, ha⟩ ⟨b, hb⟩ (by decide)
  simp only [Subtype.mk.injEq] at this
  exact this
theorem eqD_txs (a b : List Tx) : eqD (.lst (a.map fun t => .str t.1)) (.lst (b.map fun t => .str t.1)) = some (decide (a = b)) := eqD_enc (α := List Tx) a b (by decide)
theorem opD_tup0 : opD .tup [] = some (.tup []) := opD_tupS _ (by decide)
end PyI

/-! PyI 15: the words of a text's head. -/
namespace PyI
open PySem PySem.Spec PyProof.Rows L2
def lk {α : Type} (d : α) (l : List (Nat × α)) (n : Nat) : α := (l.lookup n).getD d
theorem an {α : Type} {P : α → Prop} : ∀ p ∈ ([] : List α), P p := fun p h => by cases h
theorem ac {α : Type} {P : α → Prop} {a : α} {l : List α} (h : P a) (t : ∀ p ∈ l, P p) : ∀ p ∈ a :: l, P p := fun p hp => by
  rcases List.mem_cons.mp hp with rfl | hp
  · exact h
  · exact t p hp
theorem mem_lk {α β : Type} [BEq α] [LawfulBEq α] {x : α} {g : β} : ∀ {l : List (α × β)}, l.lookup x = some g → (x, g) ∈ l
  | [], h => by cases h
  | (y, b) :: l, h => by
    rw [List.lookup_cons] at h
    cases e : x == y with
    | true =>
      rw [e] at h
      cases h
      rw [eq_of_beq e]
      exact List.mem_cons_self
    | false =>
      rw [e] at h
      exact List.mem_cons_of_mem _ (mem_lk h)
theorem lku {α β : Type} [BEq α] [LawfulBEq α] {P : α → β → Prop} {l : List (α × β)} (h : ∀ p ∈ l, P p.1 p.2) (x : α) (g : β) (e : l.lookup x = some g) : P x g := h (x, g) (mem_lk e)
theorem ihs {P : Nat → Prop} {l : List Nat} (h : ∀ c ∈ l, P c) (c : Nat) (e : l.contains c = true) : P c := h c (List.contains_iff_mem.mp e)
theorem inj_of {l : List Nat} {nm : Nat → Str} (h : ∀ f ∈ l, ∀ g ∈ l, nm f = nm g → f = g) (f g : Nat) (hf : l.contains f = true) (hg : l.contains g = true) (e : nm f = nm g) : f = g := ihs (P := fun f => ∀ g ∈ l, nm f = nm g → f = g) h f hf g (List.contains_iff_mem.mp hg) e
/-- a class with instances, as the top left it -/
structure ClF (K : PySem.W.Frag) (C : Addr) : Prop where
  pg : PySem.W.plainGet K C Str.empty = true
  hd : PySem.W.hasDictIn K C = true
  po : PySem.W.plainOver K C = true
  sa : PySem.W.findIn K (.ref C) "__setattr__" = some (some (.builtin "object.__setattr__"))
  ha : PySem.W.findIn K (.ref C) "__class__" = some (some (.builtin "object.__class__"))
  hn : PySem.W.specialIn K (.builtin "object.__class__") "__get__" = some (some (.builtin "getset_descriptor.__get__"))
  htk : PySem.W.takesIn K (.builtin "object.__class__") = some true
  hm : PySem.W.mroIn K C (.type "object") = some true
  ic : PySem.W.isClsIn K C = true
  ty : PySem.W.typeIn K (.ref C) = some (.type "type")
  se : PySem.W.subIn K (.ref C) (.ref C) = some true
  t1 : PySem.W.subIn K (.ref C) (.type "int") = some false
  t2 : PySem.W.subIn K (.ref C) (.type "bool") = some false
  t3 : PySem.W.subIn K (.ref C) (.type "str") = some false
  t4 : PySem.W.subIn K (.ref C) (.type "tuple") = some false
  t5 : PySem.W.subIn K (.ref C) (.type "list") = some false
  t6 : PySem.W.subIn K (.ref C) (.type "dict") = some false
  u0 : PySem.W.subIn K (.type "NoneType") (.ref C) = some false
  u1 : PySem.W.subIn K (.type "int") (.ref C) = some false
  u2 : PySem.W.subIn K (.type "bool") (.ref C) = some false
  u3 : PySem.W.subIn K (.type "str") (.ref C) = some false
  u4 : PySem.W.subIn K (.type "tuple") (.ref C) = some false
  u5 : PySem.W.subIn K (.type "list") (.ref C) = some false
  u6 : PySem.W.subIn K (.type "dict") (.ref C) = some false
theorem kit_ty {K : PySem.W.Frag} {a : Addr} {t : String} {b : Bool} (hm : PySem.W.kitMeta t = true) (h : PySem.W.subIn K (.ref a) (.type t) = some b) : PySem.W.kitOne K (.ref a) (.type t) = some b := by
  have e : (Value.ref a == Value.type t) = false := rfl
  unfold PySem.W.kitOne PySem.W.kitCls
  rw [e]
  simp only [hm, if_true, Bool.false_eq_true, if_false]
  exact h
theorem kit_ref {K : PySem.W.Frag} {t : Value} {C : Addr} {b : Bool} (h1 : PySem.W.isClsIn K C = true) (h2 : PySem.W.typeIn K (.ref C) = some (.type "type")) (h3 : PySem.W.subIn K t (.ref C) = some b) (h4 : PySem.W.subIn K (.ref C) (.ref C) = some true) : PySem.W.kitOne K t (.ref C) = some b := by
  unfold PySem.W.kitOne
  split
  · rename_i e
    have e : t = .ref C := by simpa using e
    subst e
    rw [h3] at h4
    exact h4.symm
  · unfold PySem.W.kitCls
    have e2 : ((PySem.W.clsIn K C).isSome && PySem.W.typeIn K (.ref C) == some (.type "type")) = true := by
      rw [show (PySem.W.clsIn K C).isSome = true from h1, h2] <;> rfl
    simp only [e2, if_true]
    exact h3
theorem ClF.ins {K : PySem.W.Frag} {C : Addr} (c : ClF K C) : InsF K C where
  cl := ⟨c.pg, c.hd, c.po, c.sa⟩
  ha := c.ha
  hn := c.hn
  htk := c.htk
  hm := c.hm
  nt := ac (kit_ty (by decide +kernel) c.t1) (ac (kit_ty (by decide +kernel) c.t2) (ac (kit_ty (by decide +kernel) c.t3) (ac (kit_ty (by decide +kernel) c.t4) (ac (kit_ty (by decide +kernel) c.t5) (ac (kit_ty (by decide +kernel) c.t6) an)))))
theorem ClF.own {S : Sta} {d : Nat} {cs : List Nat} (c : ClF S.K (S.ca d)) (h : ∀ e, S.ih e = true → PySem.W.subIn S.K (.ref (S.ca e)) (.ref (S.ca d)) = some (cs.contains e)) : OwnTy S d cs where
  blt := ac (kit_ref c.ic c.ty c.u0 c.se) (ac (kit_ref c.ic c.ty c.u2 c.se) (ac (kit_ref c.ic c.ty c.u1 c.se) (ac (kit_ref c.ic c.ty c.u3 c.se) (ac (kit_ref c.ic c.ty c.u4 c.se) (ac (kit_ref c.ic c.ty c.u5 c.se) (ac (kit_ref c.ic c.ty c.u6 c.se) an))))))
  ins := fun e he => kit_ref c.ic c.ty (h e he) c.se
theorem zip_at {x : Str} : ∀ {ns : List Str} {vs : List V} {i : Nat}, ns.findIdx? (· == x) = some i → vs.length = ns.length → (ns.zip vs).lookup x = vs[i]?
  | [], vs, i, h, _ => by cases h
  | n :: ns, [], i, h, l => by cases l
  | n :: ns, v :: vs, i, h, l => by
    rw [List.findIdx?_cons] at h
    rw [List.zip_cons_cons, List.lookup_cons]
    by_cases e : n = x
    · subst e
      simp at h
      subst h
      simp
    · have e1 : (n == x) = false := by simpa using e
      have e2 : (x == n) = false := by simpa using fun z : x = n => e z.symm
      rw [e1] at h
      rw [e2]
      simp only [Bool.false_eq_true, if_false] at h
      cases q : ns.findIdx? (· == x) with
      | none => rw [q] at h; cases h
      | some j =>
        rw [q] at h
        cases h
        show (ns.zip vs).lookup x = (v :: vs)[j + 1]?
        rw [List.getElem?_cons_succ]
        exact zip_at q (by simpa using l)
/-- an entry of a class table: where the class is there -/
theorem yes {P : Prop} {b : Bool} (h : P) : b = true → P := fun _ => h
theorem no {P : Prop} {b : Bool} (h : b = false) : b = true → P := fun e => by rw [h] at e; cases e
/-- a tuple that stands at the top -/
theorem glb_tup {S : Sta} {mg : Str → Option Value} {x : Str} {a : Addr} {xs : List D} {vs : List V} {us : List Value} {od : Option Addr} {n : Nat} {sl : Array (Option Value)} (hm : mg x = some (.ref a)) (hk : S.K.lookup a = some ⟨.type "tuple", od, .seq us.toArray n, sl⟩)
    (hz : us.length ≤ 1000) (rv : Vals vs us) (rd : ∀ F, RepL S F xs vs) : ∃ v u, mg x = some u ∧ L2.RelV v u ∧ ∀ F, RepD S F (.tup xs) v :=
  ⟨V.ref a, _, hm, rfl, fun F => rep_tup (.inr ⟨_, us.toArray, n, hk, rfl, rfl, by rw [List.size_toArray]; exact Nat.le_trans hz (by decide +kernel), by simpa using rv⟩) (rd F)⟩
theorem vi {i : Int} {t : Nat} {vs : List V} {us : List Value} (h : Vals vs us) : Vals (V.int i :: vs) (Value.int i t :: us) := .cons ⟨t, rfl⟩ h
/-- a def's parameters, the last ones by defaults -/
theorem bind_dfl {K : PySem.W.Frag} {d : DefT} {kV doc pm cdv ct : Value} {an : Option Addr} {T : Addr} {o : Obj} {its : List Value} {m : Nat} (n j : Nat)
    (hT : K.lookup T = some o) (oT : o.data = .seq its.toArray m) (hn : n + (its.length - j) = d.ps.length)
    (h : ∀ us : List Value, us.length = n → ∃ k, bindArgs (PySem.W.fnOf d.x d.qual (defArgs d.st) (defBody d.st) (defScope d.st) (.ref T) kV doc pm an cdv ct) ⟨us, []⟩ = seqItems? (.ref T) >>= k ∧ k (some its.toArray) = pure (d.ps.zip (us ++ its.drop j))) :
    Binds K (PySem.W.fnOf d.x d.qual (defArgs d.st) (defBody d.st) (defScope d.st) (.ref T) kV doc pm an cdv ct) d.ps (its.drop j) := by
  intro s us X hl
  have l2 : us.length = n := by
    rw [List.length_append, List.length_drop] at hl
    omega
  obtain ⟨k, e1, e2⟩ := h us l2
  refine BindsTo.of_looks fun M => ?_
  rw [e1]
  exact looks_items X hT oT (.of_pure e2)
/-- defaults of a def -/
theorem dfl_of {S : Sta} {g : Nat} {ds : List D} {fd : FuncData} {ps : List Str} {us : List Value} (hc : ∀ d ∈ ds, isC d = true) (hfd : S.fd g = fd) (hps : S.ps g = ps) (rT : Vals (ds.map toV) us) (h : Binds S.K fd ps us) : DflF S g ds := by
  subst hfd hps
  exact ⟨hc, us, h, rT⟩
/-- .. and some by name: each parameter is given -/
def pickU (l : List Value) (q : List (Nat ⊕ D)) : List Value := q.map fun z => match z with
  | .inl i => (l[i]?).getD .none
  | .inr _ => .none
def gUof (q : List (Nat ⊕ D)) (us ws : List Value) : List Value := match us with
  | [] => []
  | a :: r => a :: pickU (r ++ ws) q
theorem vals_getD {vs : List V} {us : List Value} (r : Vals vs us) : ∀ i : Nat, L2.RelV ((vs[i]?).getD V.non) ((us[i]?).getD Value.none) := by
  induction r with
  | nil => intro i; simp; rfl
  | cons r1 r2 ih =>
    intro i
    cases i with
    | zero => simpa using r1
    | succ i => simpa using ih i
theorem pick_rel {vs : List V} {us : List Value} (r : Vals vs us) : ∀ {q : List (Nat ⊕ D)}, (∀ d, Sum.inr d ∉ q) → Vals (pickV vs q) (pickU us q)
  | [], _ => .nil
  | .inl i :: q, h => .cons (vals_getD r i) (pick_rel r fun d hd => h d (List.mem_cons_of_mem _ hd))
  | .inr d :: q, h => absurd List.mem_cons_self (h d)
theorem kbn_of {K : PySem.W.Frag} {d : DefT} {kV doc pm cdv ct : Value} {an : Option Addr} {T : Addr} {o : Obj} {its : List Value} {m : Nat} {n : Nat} {ks : List Str} {q : List (Nat ⊕ D)} (hq : ∀ d, Sum.inr d ∉ q)
    (hT : K.lookup T = some o) (oT : o.data = .seq its.toArray m)
    (h : ∀ us ws : List Value, us.length = n → ws.length = ks.length → ∃ k, bindArgs (PySem.W.fnOf d.x d.qual (defArgs d.st) (defBody d.st) (defScope d.st) (.ref T) kV doc pm an cdv ct) ⟨us, ks.zip ws⟩ = seqItems? (.ref T) >>= k ∧ k (some its.toArray) = pure (d.ps.zip (gUof q us ws))) :
    KBn K (PySem.W.fnOf d.x d.qual (defArgs d.st) (defBody d.st) (defScope d.st) (.ref T) kV doc pm an cdv ct) d.ps n ks (gUof q) (gVof q) where
  to := fun s us ws X l1 l2 => by
    obtain ⟨k, e1, e2⟩ := h us ws l1 l2
    refine BindsTo.of_looks fun M => ?_
    rw [e1]
    exact looks_items X hT oT (.of_pure e2)
  rel := fun r rz => by
    cases r with
    | nil => exact .nil
    | cons r1 r2 => exact .cons r1 (pick_rel (L2.Vals.append r2 rz) hq)
theorem kwd_of {S : Sta} {g n : Nat} {ks : List Str} {q : List (Nat ⊕ D)} {fd : FuncData} {ps : List Str} (hf : S.fix g = true) (hq : ∀ d, Sum.inr d ∉ q) (hfd : S.fd g = fd) (hps : S.ps g = ps) (h : KBn S.K fd ps n ks (gUof q) (gVof q)) :
    S.fix g = true ∧ (∀ d, Sum.inr d ∈ q → isC d = true) ∧ ∃ gU, KBn S.K (S.fd g) (S.ps g) n ks gU (gVof q) := by
  subst hfd hps
  exact ⟨hf, fun d hd => absurd hd (hq d), _, h⟩
end PyI

/-! PyI 16: what each new form means, one row each. -/
namespace PyI
open PySem
section
variable (C : Orc) (env : Env) (M : Mem)
@[simp] theorem eE_fld (f : Nat) (cs : List (Nat × Nat)) (e : IE) : denE C (.fld f cs e) env M = bnd (denE C e env M) fun v M1 => match getF f cs v M1 with | some x => some (.ok (.d x) M1) | none => none := by first | rfl | simp only [denE]
@[simp] theorem eE_callp (f : Nat) (pl : Pl) (es : IEs) : denE C (.callp f pl es) env M = bnd (denEs C es env M) fun vs M1 => match pl.run vs with | some ws => C f ws M1 | none => none := by first | rfl | simp only [denE]
@[simp] theorem eE_prop (tbl : List (Nat × Nat)) (e : IE) : denE C (.prop tbl e) env M = bnd (denE C e env M) fun v M1 => match (clsOf v M1).bind (fun c => tbl.lookup c) with | some g => quiet (C g [v] M1) | none => none := by first | rfl | simp only [denE]
@[simp] theorem eE_mth (tbl : List (Nat × Nat)) (pl : Pl) (o : IE) (es : IEs) : denE C (.mth tbl pl o es) env M = bnd (denE C o env M) fun v M1 => match (clsOf v M1).bind (fun c => tbl.lookup c) with
    | some g => bnd (denEs C es env M1) fun vs M2 => match pl.run vs with
      | some ws => C g (v :: ws) M2
      | none => none
    | none => none := by first | rfl | simp only [denE]
@[simp] theorem eE_new (c : Nat) (fl : List Nat) (f : Nat) (pl : Pl) (es : IEs) : denE C (.new c fl f pl es) env M = bnd (denEs C es env M) fun vs M1 => match pl.run vs with
    | some ws => endNew c fl M1.length (C f (.rf M1.length :: ws) (M1 ++ [.ins c []]))
    | none => none := by first | rfl | simp only [denE]
@[simp] theorem eE_newv (i c : Nat) (fl : List Nat) (f : Nat) (pl : Pl) (es : IEs) : denE C (.newv i c fl f pl es) env M = match env[i]? with
    | some (some (.d (.cls d))) => if d = c then bnd (denEs C es env M) fun vs M1 => match pl.run vs with
        | some ws => endNew c fl M1.length (C f (.rf M1.length :: ws) (M1 ++ [.ins c []]))
        | none => none
      else none
    | _ => none := by first | rfl | simp only [denE]
@[simp] theorem eE_eql (neg : Bool) (tbl : List (Nat × Nat)) (a b : IE) : denE C (.eql neg tbl a b) env M = bnd (denE C a env M) fun v M1 => bnd (denE C b env M1) fun w M2 => runEql C tbl neg v w M2 := by first | rfl | simp only [denE]
@[simp] theorem eB_eql (neg : Bool) (tbl : List (Nat × Nat)) (a b : IE) : denB C (.eql neg tbl a b) env M = bnd (denE C (.eql neg tbl a b) env M) toB := rfl
theorem runEql_ok {tbl : List (Nat × Nat)} {neg : Bool} {xs ys : List D} (h : allSame C tbl xs ys) : runEql C tbl neg (.d (.lst xs)) (.d (.lst ys)) M = some (.ok (.d (.bl (!neg))) M) := if_pos h
@[simp] theorem eE_eqo (neg : Bool) (tbl up : List (Nat × Nat)) (a b : IE) : denE C (.eqo neg tbl up a b) env M = bnd (denE C a env M) fun v M1 => bnd (denE C b env M1) fun w M2 =>
    match eqWho tbl up (clsOf v M2) (clsOf w M2) (isTupV w) with
    | some (sw, g) => bnd (quiet (C g (if sw then [w, v] else [v, w]) M2)) fun r M3 => match asB r with
      | some c => some (.ok (.d (.bl (if neg then !c else c))) M3)
      | none => none
    | none => if plainV v M2 && plainV w M2 then runOp (if neg then .ne else .eq) [v, w] M2 else none := by first | rfl | simp only [denE]
@[simp] theorem eE_fstr (es : IEs) : denE C (.fstr es) env M = denF C es Str.empty env M := by first | rfl | simp only [denE]
@[simp] theorem eE_anint (e : IE) : denE C (.anint e) env M = bnd (denE C e env M) fun v M1 => match v with | .d (.int i) => some (.ok (.d (.int i)) M1) | _ => none := by first | rfl | simp only [denE]
@[simp] theorem eE_rpr (tbl : List (Nat × Nat)) (e : IE) : denE C (.rpr tbl e) env M = bnd (denE C e env M) fun v M1 => match clsOf v M1 with
    | some c => match tbl.lookup c with
      | some g => match quiet (C g [v] M1) with
        | some (.ok (.d (.str y)) M2) => some (.ok (.d (.str y)) M2)
        | _ => none
      | none => none
    | none => runOp .repr [v] M1 := by first | rfl | simp only [denE]
@[simp] theorem eE_chain (o o' : Op) (a b d : IE) : denE C (.chain o o' a b d) env M = bnd (denE C a env M) fun v M1 => bnd (denE C b env M1) fun w M2 => bnd (runOp o [v, w] M2) fun r M3 => match asB r with
    | some true => bnd (denE C d env M3) fun u M4 => runOp o' [w, u] M4
    | some false => some (.ok (.d (.bl false)) M3)
    | none => none := by first | rfl | simp only [denE]
@[simp] theorem eB_fld (f : Nat) (cs : List (Nat × Nat)) (e : IE) : denB C (.fld f cs e) env M = bnd (denE C (.fld f cs e) env M) toB := rfl
@[simp] theorem eB_callp (f : Nat) (pl : Pl) (es : IEs) : denB C (.callp f pl es) env M = bnd (denE C (.callp f pl es) env M) toB := rfl
@[simp] theorem eB_prop (tbl : List (Nat × Nat)) (e : IE) : denB C (.prop tbl e) env M = bnd (denE C (.prop tbl e) env M) toB := rfl
@[simp] theorem eB_mth (tbl : List (Nat × Nat)) (pl : Pl) (o : IE) (es : IEs) : denB C (.mth tbl pl o es) env M = bnd (denE C (.mth tbl pl o es) env M) toB := rfl
@[simp] theorem eB_eqo (neg : Bool) (tbl up : List (Nat × Nat)) (a b : IE) : denB C (.eqo neg tbl up a b) env M = bnd (denE C (.eqo neg tbl up a b) env M) toB := rfl
@[simp] theorem eB_chain (o o' : Op) (a b d : IE) : denB C (.chain o o' a b d) env M = bnd (denE C (.chain o o' a b d) env M) toB := rfl
@[simp] theorem eS_setf (f : Nat) (o e : IE) : denS C (.setf f o e) env M = bndS (denE C e env M) env fun v M1 => bndS (denE C o env M1) env fun ov M2 => match setF f ov v M2 with
    | some M3 => some (.nx env M3)
    | none => none := by first | rfl | simp only [denS]
@[simp] theorem eS_app (o e : IE) : denS C (.app o e) env M = bndS (denE C o env M) env fun ov M1 => if isLst ov M1 = true then bndS (denE C e env M1) env fun v M2 => match appV ov v M2 with
      | some M3 => some (.nx env M3)
      | none => none
    else none := by first | rfl | simp only [denS]
@[simp] theorem eH_nil (x : Xn) : denH C .nil x env M = some (.ex x env M) := by first | rfl | simp only [denH]
@[simp] theorem eH_cons (cs : List Nat) (h : ISs) (r : IHs) (x : Xn) : denH C (.cons cs h r) x env M = if cs.contains x.c = true then denSs C h env M else denH C r x env M := by first | rfl | simp only [denH]
@[simp] theorem pl_dfl (ds : List D) (vs : List Val) : Pl.run (.dfl ds) vs = some (vs ++ ds.map .d) := rfl
@[simp] theorem pl_by (q : List (Nat ⊕ D)) (vs : List Val) : Pl.run (.by q) vs = byV vs q := rfl
@[simp] theorem getF_d (f : Nat) (cs : List (Nat × Nat)) (c : Nat) (fs : List D) : getF f cs (.d (.ins c fs)) M = (cs.lookup c).bind fun i => fs[i]? := rfl
@[simp] theorem cls_d (c : Nat) (fs : List D) : clsOf (.d (.ins c fs)) M = some c := rfl
@[simp] theorem quiet_ok {α : Type} (a : α) : quiet (some (R.ok a M)) = some (.ok a M) := rfl
@[simp] theorem opD_isin (x y : D) : opD .isin [x, y] = (inD x y).map .bl := rfl
@[simp] theorem opD_notin (x y : D) : opD .notin [x, y] = (inD x y).map fun b => .bl (!b) := rfl
theorem opD_addT (xs ys : List D) (h : xs.length + ys.length ≤ 1000) : opD .add [.tup xs, .tup ys] = some (.tup (xs ++ ys)) := if_pos (Evl.sz_of (Nat.le_trans h (by decide)))
theorem opD_addS (a b : Str) (h : a.length + b.length ≤ 100000) : opD .add [.str a, .str b] = some (.str (a ++ b)) := if_pos (Nat.le_trans h (by decide +kernel))
theorem opD_addL (xs ys : List D) (h : xs.length + ys.length ≤ 1000) : opD .add [.lst xs, .lst ys] = some (.lst (xs ++ ys)) := if_pos (Evl.sz_of (Nat.le_trans h (by decide)))
@[simp] theorem mGet (c : Cell) : (M ++ [c])[M.length]? = some c := by simp
@[simp] theorem mSet (c d : Cell) : (M ++ [c]).set M.length d = M ++ [d] := by simp
@[simp] theorem mTake1 (c : Cell) : (M ++ [c]).take (M.length + 1) = M ++ [c] := List.take_of_length_le (by simp)
@[simp] theorem runOp6 (o : Op) (x y z u v w : D) : runOp o [.d x, .d y, .d z, .d u, .d v, .d w] M = (opD o [x, y, z, u, v, w]).map fun x => .ok (.d x) M := runOp_d o [x, y, z, u, v, w] M
@[simp] theorem runOp10 (o : Op) (x y z u v w p q r s : D) : runOp o [.d x, .d y, .d z, .d u, .d v, .d w, .d p, .d q, .d r, .d s] M = (opD o [x, y, z, u, v, w, p, q, r, s]).map fun x => .ok (.d x) M := runOp_d o [x, y, z, u, v, w, p, q, r, s] M
@[simp] theorem opD_lst10 (x y z u v w p q r s : D) : opD .lst [x, y, z, u, v, w, p, q, r, s] = some (.lst [x, y, z, u, v, w, p, q, r, s]) := opD_lstS _ (by simp)
@[simp] theorem mTake (c : Cell) : (M ++ [c]).take M.length = M := by simp
/-- the attribute of a new object -/
theorem setF_new (f : Nat) (c : Nat) (fs : List (Nat × D)) (x : D) (h : fs.length < 900) : setF f (.rf M.length) (.d x) (M ++ [.ins c fs]) = some (M ++ [.ins c (putF fs f x)]) := by
  unfold setF
  simp [Val.hold, h]
theorem getF_new (f : Nat) (cs : List (Nat × Nat)) (c : Nat) (fs : List (Nat × D)) (h : (cs.lookup c).isSome = true) : getF f cs (.rf M.length) (M ++ [.ins c fs]) = fs.lookup f := by
  show (match (M ++ [Cell.ins c fs])[M.length]? with
    | some (.ins c fs) => if (cs.lookup c).isSome then fs.lookup f else none
    | _ => none) = _
  rw [mGet]
  simp only [h, if_true]
theorem endNew_ok (c : Nat) (fl : List Nat) (fs : List (Nat × D)) (h : fs.map (·.1) = fl) : endNew c fl M.length (some (.ok (.d .non) (M ++ [.ins c fs]))) = some (.ok (.d (.ins c (fs.map (·.2)))) M) := by
  unfold endNew
  simp [h]
end
end PyI

/-! the algebra of six numbers -/
namespace KK
open PySem PyI
structure Six where
  (a b c d e f : Int)
  deriving DecidableEq
theorem Six.ext' {x y : Six} (h1 : x.a = y.a) (h2 : x.b = y.b) (h3 : x.c = y.c) (h4 : x.d = y.d) (h5 : x.e = y.e) (h6 : x.f = y.f) : x = y := by
  cases x; cases y
  simp only at h1 h2 h3 h4 h5 h6
  subst h1 h2 h3 h4 h5 h6
  rfl
def Six.tup (s : Six) : D := .tup [.int s.a, .int s.b, .int s.c, .int s.d, .int s.e, .int s.f]
def Six.det (s : Six) : Int := s.a * s.d - s.b * s.c
def id6 : Six := ⟨1, 0, 0, 1, 0, 0⟩
def comp (x y : Six) : Six := ⟨y.a * x.a + y.b * x.c, y.a * x.b + y.b * x.d, y.c * x.a + y.d * x.c, y.c * x.b + y.d * x.d, y.a * x.e + y.b * x.f + y.e, y.c * x.e + y.d * x.f + y.f⟩
def inv6 (x : Six) : Six := ⟨x.det * x.d, -x.det * x.b, -x.det * x.c, x.det * x.a, -(x.det * x.d) * x.e - -x.det * x.b * x.f, -(-x.det * x.c) * x.e - x.det * x.a * x.f⟩
theorem comp_assoc (x y z : Six) : comp (comp x y) z = comp x (comp y z) := by
  apply Six.ext' <;> simp only [comp] <;> grind
theorem comp_id (x : Six) : comp x id6 = x := by
  apply Six.ext' <;> simp [comp, id6]
theorem id_comp (x : Six) : comp id6 x = x := by
  apply Six.ext' <;> simp [comp, id6]
theorem det_comp (x y : Six) : (comp x y).det = x.det * y.det := by
  simp only [comp, Six.det]; grind
theorem det_sq {x : Six} (h : x.det = 1 ∨ x.det = -1) : x.det * x.det = 1 := by
  rcases h with h | h <;> rw [h] <;> rfl
theorem comp_inv {x : Six} (h : x.det = 1 ∨ x.det = -1) : comp x (inv6 x) = id6 := by
  have h2 := det_sq h
  have e : x.det = x.a * x.d - x.b * x.c := rfl
  apply Six.ext' <;> simp only [comp, inv6, id6] <;> grind
theorem inv_comp {x : Six} (h : x.det = 1 ∨ x.det = -1) : comp (inv6 x) x = id6 := by
  have h2 := det_sq h
  have e : x.det = x.a * x.d - x.b * x.c := rfl
  apply Six.ext' <;> simp only [comp, inv6, id6] <;> grind
theorem det_inv {x : Six} (h : x.det = 1 ∨ x.det = -1) : (inv6 x).det = x.det := by
  have e : x.det = x.a * x.d - x.b * x.c := rfl
  have h2 := det_sq h
  simp only [inv6, Six.det] at *
  grind
theorem unit_mul {a b : Int} (h1 : a = 1 ∨ a = -1) (h2 : b = 1 ∨ b = -1) : a * b = 1 ∨ a * b = -1 := by
  rcases h1 with rfl | rfl <;> rcases h2 with rfl | rfl <;> decide
/-- powers -/
def pow6 (x : Six) : Nat → Six
  | 0 => id6
  | n + 1 => comp (pow6 x n) x
theorem pow_add (x : Six) (m n : Nat) : pow6 x (m + n) = comp (pow6 x m) (pow6 x n) := by
  induction n with
  | zero => exact (comp_id _).symm
  | succ n ih =>
    show comp (pow6 x (m + n)) x = comp (pow6 x m) (comp (pow6 x n) x)
    rw [ih, comp_assoc]
theorem pow_conj {c x : Six} (h : c.det = 1 ∨ c.det = -1) (n : Nat) : pow6 (comp (comp c x) (inv6 c)) n = comp (comp c (pow6 x n)) (inv6 c) := by
  induction n with
  | zero => show id6 = comp (comp c id6) (inv6 c); rw [comp_id, comp_inv h]
  | succ n ih =>
    show comp (pow6 (comp (comp c x) (inv6 c)) n) (comp (comp c x) (inv6 c)) = comp (comp c (comp (pow6 x n) x)) (inv6 c)
    rw [ih]
    have e : comp (comp (comp c (pow6 x n)) (inv6 c)) (comp (comp c x) (inv6 c)) = comp (comp c (pow6 x n)) (comp (comp (inv6 c) c) (comp x (inv6 c))) := by
      simp only [comp_assoc]
    rw [e, inv_comp h, id_comp]
    simp only [comp_assoc]
theorem conj_id {c x : Six} (h : c.det = 1 ∨ c.det = -1) : comp (comp c x) (inv6 c) = id6 ↔ x = id6 := by
  constructor
  · intro e
    have e2 : comp (comp (inv6 c) (comp (comp c x) (inv6 c))) c = x := by
      have : comp (comp (inv6 c) (comp (comp c x) (inv6 c))) c = comp (comp (inv6 c) c) (comp x (comp (inv6 c) c)) := by simp only [comp_assoc]
      rw [this, inv_comp h, id_comp, comp_id]
    rw [← e2, e, comp_id, inv_comp h]
  · intro e
    rw [e, comp_id, comp_inv h]
/-- the first turn, up to n, that brings all back -/
def ordUp (x : Six) (n : Nat) : Option Nat := ((List.range n).find? fun i => decide (pow6 x (i + 1) = id6)).map (· + 1)
theorem ordUp_conj {c x : Six} (h : c.det = 1 ∨ c.det = -1) (n : Nat) : ordUp (comp (comp c x) (inv6 c)) n = ordUp x n := by
  unfold ordUp
  congr 1
  congr 1
  funext i
  rw [pow_conj h]
  simp only [conj_id h]
end KK

/-! the program and the law: the defs, in the small language (printed by a program) -/
namespace KK
open PySem PySem.Spec PyProof.Rows L2 PyI
def top (i : Nat) : Stmt := PySem.Challenge.pw_latticeshapes_k07_whole_maps_composed.main.body.getD i (.Pass ⟨0, 0, 0, 0⟩)
def mem (s : Stmt) (j : Nat) : Stmt := match s with
  | .ClassDef _ _ _ body .. => body.getD j (.Pass ⟨0, 0, 0, 0⟩)
  | _ => s
def tb : Tb := { fns := [("need_integer", 70), ("need_integers", 1), ("is_point", 37), ("first_wrong_point", 38), ("need_point", 39), ("need_map", 71), ("need_determinant", 60), ("made_map", 72), ("images_under", 61), ("determinant_of", 62), ("composed", 73), ("inverted", 74), ("repeated", 75), ("_law_draws", 4), ("_law_draw", 5), ("_law_product", 63), ("_law_numbers", 64), ("_law_image", 76), ("_law_grid", 77), ("_law_rejected", 78), ("_law_powers_right", 79), ("law", 80)], dfls := [((47, 6), [(.int (0))]), ((47, 5), [(.int (0)), (.int (0))])], xs := [("InvalidInteger", 1), ("InvalidPoint", 2), ("InvalidMap", 4)], exs := [("InvalidInteger", [1]), ("InvalidMap", [4])], cls := [("SoundNumbers", (20, [20])), ("GridMap", (21, [21]))], news := [("SoundNumbers", (20, 46, [7])), ("GridMap", (21, 47, [8]))], flds := [("six", (8, [(21, 0)])), ("sound", (7, [(20, 0)]))], props := [("numbers", [(21, 48)])], mths := [("apply", [(21, 53)]), ("inverse", [(21, 55)]), ("power", [(21, 56)]), ("then", [(21, 54)])], cons := [], eqs := [(21, 51), (23, 99), (24, 106), (27, 480)], ups := [(23, 24)], reprs := [(21, 52), (23, 101), (24, 107)], glbs := [("IDENTITY", (.tup [(.int (1)), (.int (0)), (.int (0)), (.int (1)), (.int (0)), (.int (0))]))], cmts := [(("GridMap", "identity"), (21, 58))], clsv := [("cls", (21, 47, [8]))], smts := [], kwd := [], eql := ["_law_grids"] }
def b70 : ISs := (.cons (.ife (.or (.not (.op (.isi [.int]) (.cons (.var 0) .nil))) (.or (.op .is (.cons (.var 0) (.cons (.cst (.bl true)) .nil))) (.op .is (.cons (.var 0) (.cons (.cst (.bl false)) .nil))))) (.cons (.raise 1 .nil) .nil) .nil) .nil)
def F70 : Fn := { np := 1, star := false, ns := 1, body := b70, keep := false }
def d70 : DefT := { g := 70, x := "need_integer", qual := "need_integer", st := (top 7), N := ["value"], ps := ["value"], pv := none, muts := [], fn := F70 }
theorem ok70 : d70.Ok tb := ⟨by kernel_rfl, ⟨rfl, rfl, rfl, by decide +kernel, rfl, by decide +kernel, by decide +kernel⟩, rfl, rfl, rfl⟩
theorem bo70 : BindsOk d70 := fun _ _ _ _ _ _ us hl => match us, hl with | [_], _ => rfl
def b1 : ISs := (.cons (.for (.nm 1) (.seq (.var 0)) (.cons (.ife (.or (.not (.op (.isi [.int]) (.cons (.var 1) .nil))) (.or (.op .is (.cons (.var 1) (.cons (.cst (.bl true)) .nil))) (.op .is (.cons (.var 1) (.cons (.cst (.bl false)) .nil))))) (.cons (.raise 1 .nil) .nil) .nil) .nil)) .nil)
def F1 : Fn := { np := 1, star := false, ns := 2, body := b1, keep := false }
def d1 : DefT := { g := 1, x := "need_integers", qual := "need_integers", st := (top 8), N := ["numbers", "number"], ps := ["numbers"], pv := none, muts := [], fn := F1 }
theorem ok1 : d1.Ok tb := ⟨by kernel_rfl, ⟨rfl, rfl, rfl, by decide +kernel, rfl, by decide +kernel, by decide +kernel⟩, rfl, rfl, rfl⟩
theorem bo1 : BindsOk d1 := fun _ _ _ _ _ _ us hl => match us, hl with | [_], _ => rfl
def b37 : ISs := (.cons (.ret (.op .is (.cons (.call 38 (.cons (.op .lst (.cons (.var 0) .nil)) .nil)) (.cons (.cst .non) .nil)))) .nil)
def F37 : Fn := { np := 1, star := false, ns := 1, body := b37, keep := false }
def d37 : DefT := { g := 37, x := "is_point", qual := "is_point", st := (top 10), N := ["value"], ps := ["value"], pv := none, muts := [], fn := F37 }
theorem ok37 : d37.Ok tb := ⟨by kernel_rfl, ⟨rfl, rfl, rfl, by decide +kernel, rfl, by decide +kernel, by decide +kernel⟩, rfl, rfl, rfl⟩
theorem bo37 : BindsOk d37 := fun _ _ _ _ _ _ us hl => match us, hl with | [_], _ => rfl
def b38 : ISs := (.cons (.for (.tp [(.nm 1), (.nm 2)]) (.enum (.cons (.var 0) .nil)) (.cons (.ife (.or (.not (.op (.isi [.tuple]) (.cons (.var 2) .nil))) (.op .ne (.cons (.op .len (.cons (.var 2) .nil)) (.cons (.cst (.int (2))) .nil)))) (.cons (.ret (.var 1)) .nil) .nil) (.cons (.set (.tp [(.nm 3), (.nm 4)]) (.var 2)) (.cons (.ife (.or (.not (.op (.isi [.int]) (.cons (.var 3) .nil))) (.not (.op (.isi [.int]) (.cons (.var 4) .nil)))) (.cons (.ret (.var 1)) .nil) .nil) (.cons (.ife (.or (.op .is (.cons (.var 3) (.cons (.cst (.bl true)) .nil))) (.or (.op .is (.cons (.var 3) (.cons (.cst (.bl false)) .nil))) (.or (.op .is (.cons (.var 4) (.cons (.cst (.bl true)) .nil))) (.op .is (.cons (.var 4) (.cons (.cst (.bl false)) .nil)))))) (.cons (.ret (.var 1)) .nil) .nil) .nil))))) (.cons (.ret (.cst .non)) .nil))
def F38 : Fn := { np := 1, star := false, ns := 5, body := b38, keep := false }
def d38 : DefT := { g := 38, x := "first_wrong_point", qual := "first_wrong_point", st := (top 11), N := ["values", "position", "value", "x", "y"], ps := ["values"], pv := none, muts := [], fn := F38 }
theorem ok38 : d38.Ok tb := ⟨by kernel_rfl, ⟨rfl, rfl, rfl, by decide +kernel, rfl, by decide +kernel, by decide +kernel⟩, rfl, rfl, rfl⟩
theorem bo38 : BindsOk d38 := fun _ _ _ _ _ _ us hl => match us, hl with | [_], _ => rfl
def b39 : ISs := (.cons (.ife (.not (.call 37 (.cons (.var 0) .nil))) (.cons (.raise 2 .nil) .nil) .nil) .nil)
def F39 : Fn := { np := 1, star := false, ns := 1, body := b39, keep := false }
def d39 : DefT := { g := 39, x := "need_point", qual := "need_point", st := (top 12), N := ["value"], ps := ["value"], pv := none, muts := [], fn := F39 }
theorem ok39 : d39.Ok tb := ⟨by kernel_rfl, ⟨rfl, rfl, rfl, by decide +kernel, rfl, by decide +kernel, by decide +kernel⟩, rfl, rfl, rfl⟩
theorem bo39 : BindsOk d39 := fun _ _ _ _ _ _ us hl => match us, hl with | [_], _ => rfl
def b46 : ISs := (.cons (.setf 7 (.var 0) (.var 1)) .nil)
def F46 : Fn := { np := 2, star := false, ns := 2, body := b46, keep := false }
def d46 : DefT := { g := 46, x := "__init__", qual := "SoundNumbers.__init__", st := (mem (top 15) 0), N := ["self", "sound"], ps := ["self", "sound"], pv := none, muts := [], fn := F46 }
theorem ok46 : d46.Ok tb := ⟨by kernel_rfl, ⟨rfl, rfl, rfl, by decide +kernel, rfl, by decide +kernel, by decide +kernel⟩, rfl, rfl, rfl⟩
theorem bo46 : BindsOk d46 := fun _ _ _ _ _ _ us hl => match us, hl with | [_, _], _ => rfl
def b47 : ISs := (.cons (.ife (.op (.isi [(.own 20 [20])]) (.cons (.var 1) .nil)) (.cons (.setf 8 (.var 0) (.fld 7 [(20, 0)] (.var 1))) .nil) (.cons (.setf 8 (.var 0) (.op .tup (.cons (.var 1) (.cons (.var 2) (.cons (.var 3) (.cons (.var 4) (.cons (.var 5) (.cons (.var 6) .nil)))))))) (.cons (.drop (.call 1 (.cons (.fld 8 [(21, 0)] (.var 0)) .nil))) (.cons (.drop (.call 60 (.cons (.fld 8 [(21, 0)] (.var 0)) .nil))) .nil)))) .nil)
def F47 : Fn := { np := 7, star := false, ns := 7, body := b47, keep := false }
def d47 : DefT := { g := 47, x := "__init__", qual := "GridMap.__init__", st := (mem (top 16) 1), N := ["self", "a", "b", "c", "d", "e", "f"], ps := ["self", "a", "b", "c", "d", "e", "f"], pv := none, muts := [], fn := F47 }
theorem ok47 : d47.Ok tb := ⟨by kernel_rfl, ⟨rfl, rfl, rfl, by decide +kernel, rfl, by decide +kernel, by decide +kernel⟩, rfl, rfl, rfl⟩
def b48 : ISs := (.cons (.ret (.fld 8 [(21, 0)] (.var 0))) .nil)
def F48 : Fn := { np := 1, star := false, ns := 1, body := b48, keep := false }
def d48 : DefT := { g := 48, x := "numbers", qual := "GridMap.numbers", st := (mem (top 16) 2), N := ["self"], ps := ["self"], pv := none, muts := [], fn := F48 }
theorem ok48 : d48.Ok tb := ⟨by kernel_rfl, ⟨rfl, rfl, rfl, by decide +kernel, rfl, by decide +kernel, by decide +kernel⟩, rfl, rfl, rfl⟩
theorem bo48 : BindsOk d48 := fun _ _ _ _ _ _ us hl => match us, hl with | [_], _ => rfl
def b49 : ISs := (.cons (.ret (.call 62 (.cons (.fld 8 [(21, 0)] (.var 0)) .nil))) .nil)
def F49 : Fn := { np := 1, star := false, ns := 1, body := b49, keep := false }
def d49 : DefT := { g := 49, x := "determinant", qual := "GridMap.determinant", st := (mem (top 16) 3), N := ["self"], ps := ["self"], pv := none, muts := [], fn := F49 }
theorem ok49 : d49.Ok tb := ⟨by kernel_rfl, ⟨rfl, rfl, rfl, by decide +kernel, rfl, by decide +kernel, by decide +kernel⟩, rfl, rfl, rfl⟩
theorem bo49 : BindsOk d49 := fun _ _ _ _ _ _ us hl => match us, hl with | [_], _ => rfl
def b51 : ISs := (.cons (.ret (.and (.op (.isi [(.own 21 [21])]) (.cons (.var 1) .nil)) (.eqo false [(21, 51), (23, 99), (24, 106), (27, 480)] [(23, 24)] (.fld 8 [(21, 0)] (.var 0)) (.fld 8 [(21, 0)] (.var 1))))) .nil)
def F51 : Fn := { np := 2, star := false, ns := 2, body := b51, keep := false }
def d51 : DefT := { g := 51, x := "__eq__", qual := "GridMap.__eq__", st := (mem (top 16) 5), N := ["self", "other"], ps := ["self", "other"], pv := none, muts := [], fn := F51 }
theorem ok51 : d51.Ok tb := ⟨by kernel_rfl, ⟨rfl, rfl, rfl, by decide +kernel, rfl, by decide +kernel, by decide +kernel⟩, rfl, rfl, rfl⟩
theorem bo51 : BindsOk d51 := fun _ _ _ _ _ _ us hl => match us, hl with | [_, _], _ => rfl
def b52 : ISs := (.cons (.ret (.fstr (.cons (.cst (.str (PySem.Str.ofString "GridMap"))) (.cons (.op .fmt (.cons (.fld 8 [(21, 0)] (.var 0)) .nil)) .nil)))) .nil)
def F52 : Fn := { np := 1, star := false, ns := 1, body := b52, keep := false }
def d52 : DefT := { g := 52, x := "__repr__", qual := "GridMap.__repr__", st := (mem (top 16) 6), N := ["self"], ps := ["self"], pv := none, muts := [], fn := F52 }
theorem ok52 : d52.Ok tb := ⟨by kernel_rfl, ⟨rfl, rfl, rfl, by decide +kernel, rfl, by decide +kernel, by decide +kernel⟩, rfl, rfl, rfl⟩
theorem bo52 : BindsOk d52 := fun _ _ _ _ _ _ us hl => match us, hl with | [_], _ => rfl
def b53 : ISs := (.cons (.drop (.call 39 (.cons (.var 1) .nil))) (.cons (.ret (.op .ix (.cons (.call 61 (.cons (.fld 8 [(21, 0)] (.var 0)) (.cons (.op .lst (.cons (.var 1) .nil)) .nil))) (.cons (.cst (.int (0))) .nil)))) .nil))
def F53 : Fn := { np := 2, star := false, ns := 2, body := b53, keep := false }
def d53 : DefT := { g := 53, x := "apply", qual := "GridMap.apply", st := (mem (top 16) 7), N := ["self", "point"], ps := ["self", "point"], pv := none, muts := [], fn := F53 }
theorem ok53 : d53.Ok tb := ⟨by kernel_rfl, ⟨rfl, rfl, rfl, by decide +kernel, rfl, by decide +kernel, by decide +kernel⟩, rfl, rfl, rfl⟩
theorem bo53 : BindsOk d53 := fun _ _ _ _ _ _ us hl => match us, hl with | [_, _], _ => rfl
def b54 : ISs := (.cons (.for (.nm 2) (.seq (.var 1)) (.cons (.drop (.call 71 (.cons (.var 2) .nil))) .nil)) (.cons (.set (.nm 3) (.fld 8 [(21, 0)] (.var 0))) (.cons (.for (.nm 2) (.seq (.var 1)) (.cons (.set (.nm 3) (.call 73 (.cons (.var 3) (.cons (.fld 8 [(21, 0)] (.var 2)) .nil)))) .nil)) (.cons (.ret (.call 72 (.cons (.var 3) .nil))) .nil))))
def F54 : Fn := { np := 1, star := true, ns := 4, body := b54, keep := false }
def d54 : DefT := { g := 54, x := "then", qual := "GridMap.then", st := (mem (top 16) 8), N := ["self", "others", "other", "six"], ps := ["self"], pv := some "others", muts := [], fn := F54 }
theorem ok54 : d54.Ok tb := ⟨by kernel_rfl, ⟨rfl, rfl, rfl, by decide +kernel, rfl, by decide +kernel, by decide +kernel⟩, rfl, rfl, rfl⟩
theorem bo54 : BindsOk d54 := fun _ _ _ _ _ _ us rest hl => match us, rest, hl with | [_], [], _ => rfl | [_], _ :: _, _ => rfl
def b55 : ISs := (.cons (.ret (.call 72 (.cons (.call 74 (.cons (.fld 8 [(21, 0)] (.var 0)) .nil)) .nil))) .nil)
def F55 : Fn := { np := 1, star := false, ns := 1, body := b55, keep := false }
def d55 : DefT := { g := 55, x := "inverse", qual := "GridMap.inverse", st := (mem (top 16) 9), N := ["self"], ps := ["self"], pv := none, muts := [], fn := F55 }
theorem ok55 : d55.Ok tb := ⟨by kernel_rfl, ⟨rfl, rfl, rfl, by decide +kernel, rfl, by decide +kernel, by decide +kernel⟩, rfl, rfl, rfl⟩
theorem bo55 : BindsOk d55 := fun _ _ _ _ _ _ us hl => match us, hl with | [_], _ => rfl
def b56 : ISs := (.cons (.drop (.call 70 (.cons (.var 1) .nil))) (.cons (.set (.nm 2) (.fld 8 [(21, 0)] (.var 0))) (.cons (.ife (.op .lt (.cons (.var 1) (.cons (.cst (.int (0))) .nil))) (.cons (.set (.nm 2) (.call 74 (.cons (.var 2) .nil))) .nil) .nil) (.cons (.ret (.call 72 (.cons (.call 75 (.cons (.var 2) (.cons (.op .abs (.cons (.var 1) .nil)) .nil))) .nil))) .nil))))
def F56 : Fn := { np := 2, star := false, ns := 3, body := b56, keep := false }
def d56 : DefT := { g := 56, x := "power", qual := "GridMap.power", st := (mem (top 16) 10), N := ["self", "exponent", "six"], ps := ["self", "exponent"], pv := none, muts := [], fn := F56 }
theorem ok56 : d56.Ok tb := ⟨by kernel_rfl, ⟨rfl, rfl, rfl, by decide +kernel, rfl, by decide +kernel, by decide +kernel⟩, rfl, rfl, rfl⟩
theorem bo56 : BindsOk d56 := fun _ _ _ _ _ _ us hl => match us, hl with | [_, _], _ => rfl
def b58 : ISs := (.cons (.ret (.newv 0 21 [8] 47 (.dfl [(.int (0)), (.int (0))]) (.cons (.cst (.int (1))) (.cons (.cst (.int (0))) (.cons (.cst (.int (0))) (.cons (.cst (.int (1))) .nil)))))) .nil)
def F58 : Fn := { np := 1, star := false, ns := 1, body := b58, keep := false }
def d58 : DefT := { g := 58, x := "identity", qual := "GridMap.identity", st := (mem (top 16) 12), N := ["cls"], ps := ["cls"], pv := none, muts := [], fn := F58 }
theorem ok58 : d58.Ok tb := ⟨by kernel_rfl, ⟨rfl, rfl, rfl, by decide +kernel, rfl, by decide +kernel, by decide +kernel⟩, rfl, rfl, rfl⟩
theorem bo58 : BindsOk d58 := fun _ _ _ _ _ _ us hl => match us, hl with | [_], _ => rfl
def b71 : ISs := (.cons (.ife (.not (.op (.isi [(.own 21 [21])]) (.cons (.var 0) .nil))) (.cons (.raise 4 .nil) .nil) .nil) .nil)
def F71 : Fn := { np := 1, star := false, ns := 1, body := b71, keep := false }
def d71 : DefT := { g := 71, x := "need_map", qual := "need_map", st := (top 17), N := ["value"], ps := ["value"], pv := none, muts := [], fn := F71 }
theorem ok71 : d71.Ok tb := ⟨by kernel_rfl, ⟨rfl, rfl, rfl, by decide +kernel, rfl, by decide +kernel, by decide +kernel⟩, rfl, rfl, rfl⟩
theorem bo71 : BindsOk d71 := fun _ _ _ _ _ _ us hl => match us, hl with | [_], _ => rfl
def b60 : ISs := (.cons (.ife (.op .notin (.cons (.call 62 (.cons (.var 0) .nil)) (.cons (.op .tup (.cons (.cst (.int (1))) (.cons (.op .neg (.cons (.cst (.int (1))) .nil)) .nil))) .nil))) (.cons (.raise 4 .nil) .nil) .nil) .nil)
def F60 : Fn := { np := 1, star := false, ns := 1, body := b60, keep := false }
def d60 : DefT := { g := 60, x := "need_determinant", qual := "need_determinant", st := (top 18), N := ["six"], ps := ["six"], pv := none, muts := [], fn := F60 }
theorem ok60 : d60.Ok tb := ⟨by kernel_rfl, ⟨rfl, rfl, rfl, by decide +kernel, rfl, by decide +kernel, by decide +kernel⟩, rfl, rfl, rfl⟩
theorem bo60 : BindsOk d60 := fun _ _ _ _ _ _ us hl => match us, hl with | [_], _ => rfl
def b72 : ISs := (.cons (.ret (.new 21 [8] 47 (.dfl [(.int (0)), (.int (0))]) (.cons (.new 20 [7] 46 (.dfl []) (.cons (.var 0) .nil)) (.cons (.cst (.int (0))) (.cons (.cst (.int (0))) (.cons (.cst (.int (0))) .nil)))))) .nil)
def F72 : Fn := { np := 1, star := false, ns := 1, body := b72, keep := false }
def d72 : DefT := { g := 72, x := "made_map", qual := "made_map", st := (top 19), N := ["six"], ps := ["six"], pv := none, muts := [], fn := F72 }
theorem ok72 : d72.Ok tb := ⟨by kernel_rfl, ⟨rfl, rfl, rfl, by decide +kernel, rfl, by decide +kernel, by decide +kernel⟩, rfl, rfl, rfl⟩
theorem bo72 : BindsOk d72 := fun _ _ _ _ _ _ us hl => match us, hl with | [_], _ => rfl
def b61 : ISs := (.cons (.set (.tp [(.nm 2), (.nm 3), (.nm 4), (.nm 5), (.nm 6), (.nm 7)]) (.var 0)) (.cons (.ret (.lc (.tp [(.nm 8), (.nm 9)]) [8, 9] (.seq (.var 1)) .nil (.op .tup (.cons (.op .add (.cons (.op .add (.cons (.op .mul (.cons (.var 2) (.cons (.var 8) .nil))) (.cons (.op .mul (.cons (.var 3) (.cons (.var 9) .nil))) .nil))) (.cons (.var 6) .nil))) (.cons (.op .add (.cons (.op .add (.cons (.op .mul (.cons (.var 4) (.cons (.var 8) .nil))) (.cons (.op .mul (.cons (.var 5) (.cons (.var 9) .nil))) .nil))) (.cons (.var 7) .nil))) .nil))))) .nil))
def F61 : Fn := { np := 2, star := false, ns := 10, body := b61, keep := false }
def d61 : DefT := { g := 61, x := "images_under", qual := "images_under", st := (top 20), N := ["six", "points", "a", "b", "c", "d", "e", "f", "x", "y"], ps := ["six", "points"], pv := none, muts := [], fn := F61 }
theorem ok61 : d61.Ok tb := ⟨by kernel_rfl, ⟨rfl, rfl, rfl, by decide +kernel, rfl, by decide +kernel, by decide +kernel⟩, rfl, rfl, rfl⟩
theorem bo61 : BindsOk d61 := fun _ _ _ _ _ _ us hl => match us, hl with | [_, _], _ => rfl
def b62 : ISs := (.cons (.ret (.op .sub (.cons (.op .mul (.cons (.op .ix (.cons (.var 0) (.cons (.cst (.int (0))) .nil))) (.cons (.op .ix (.cons (.var 0) (.cons (.cst (.int (3))) .nil))) .nil))) (.cons (.op .mul (.cons (.op .ix (.cons (.var 0) (.cons (.cst (.int (1))) .nil))) (.cons (.op .ix (.cons (.var 0) (.cons (.cst (.int (2))) .nil))) .nil))) .nil)))) .nil)
def F62 : Fn := { np := 1, star := false, ns := 1, body := b62, keep := false }
def d62 : DefT := { g := 62, x := "determinant_of", qual := "determinant_of", st := (top 21), N := ["six"], ps := ["six"], pv := none, muts := [], fn := F62 }
theorem ok62 : d62.Ok tb := ⟨by kernel_rfl, ⟨rfl, rfl, rfl, by decide +kernel, rfl, by decide +kernel, by decide +kernel⟩, rfl, rfl, rfl⟩
theorem bo62 : BindsOk d62 := fun _ _ _ _ _ _ us hl => match us, hl with | [_], _ => rfl
def b73 : ISs := (.cons (.set (.tp [(.nm 2), (.nm 3), (.nm 4), (.nm 5), (.nm 6), (.nm 7)]) (.var 0)) (.cons (.set (.tp [(.nm 8), (.nm 9), (.nm 10), (.nm 11), (.nm 12), (.nm 13)]) (.var 1)) (.cons (.ret (.op .tup (.cons (.op .add (.cons (.op .mul (.cons (.var 8) (.cons (.var 2) .nil))) (.cons (.op .mul (.cons (.var 9) (.cons (.var 4) .nil))) .nil))) (.cons (.op .add (.cons (.op .mul (.cons (.var 8) (.cons (.var 3) .nil))) (.cons (.op .mul (.cons (.var 9) (.cons (.var 5) .nil))) .nil))) (.cons (.op .add (.cons (.op .mul (.cons (.var 10) (.cons (.var 2) .nil))) (.cons (.op .mul (.cons (.var 11) (.cons (.var 4) .nil))) .nil))) (.cons (.op .add (.cons (.op .mul (.cons (.var 10) (.cons (.var 3) .nil))) (.cons (.op .mul (.cons (.var 11) (.cons (.var 5) .nil))) .nil))) (.cons (.op .add (.cons (.op .add (.cons (.op .mul (.cons (.var 8) (.cons (.var 6) .nil))) (.cons (.op .mul (.cons (.var 9) (.cons (.var 7) .nil))) .nil))) (.cons (.var 12) .nil))) (.cons (.op .add (.cons (.op .add (.cons (.op .mul (.cons (.var 10) (.cons (.var 6) .nil))) (.cons (.op .mul (.cons (.var 11) (.cons (.var 7) .nil))) .nil))) (.cons (.var 13) .nil))) .nil)))))))) .nil)))
def F73 : Fn := { np := 2, star := false, ns := 14, body := b73, keep := false }
def d73 : DefT := { g := 73, x := "composed", qual := "composed", st := (top 22), N := ["first", "second", "a", "b", "c", "d", "e", "f", "p", "q", "r", "s", "t", "u"], ps := ["first", "second"], pv := none, muts := [], fn := F73 }
theorem ok73 : d73.Ok tb := ⟨by kernel_rfl, ⟨rfl, rfl, rfl, by decide +kernel, rfl, by decide +kernel, by decide +kernel⟩, rfl, rfl, rfl⟩
theorem bo73 : BindsOk d73 := fun _ _ _ _ _ _ us hl => match us, hl with | [_, _], _ => rfl
def b74 : ISs := (.cons (.set (.tp [(.nm 1), (.nm 2), (.nm 3), (.nm 4), (.nm 5), (.nm 6)]) (.var 0)) (.cons (.set (.nm 7) (.call 62 (.cons (.var 0) .nil))) (.cons (.set (.tp [(.nm 1), (.nm 2), (.nm 3), (.nm 4)]) (.op .tup (.cons (.op .mul (.cons (.var 7) (.cons (.var 4) .nil))) (.cons (.op .mul (.cons (.op .neg (.cons (.var 7) .nil)) (.cons (.var 2) .nil))) (.cons (.op .mul (.cons (.op .neg (.cons (.var 7) .nil)) (.cons (.var 3) .nil))) (.cons (.op .mul (.cons (.var 7) (.cons (.var 1) .nil))) .nil)))))) (.cons (.ret (.op .tup (.cons (.var 1) (.cons (.var 2) (.cons (.var 3) (.cons (.var 4) (.cons (.op .sub (.cons (.op .mul (.cons (.op .neg (.cons (.var 1) .nil)) (.cons (.var 5) .nil))) (.cons (.op .mul (.cons (.var 2) (.cons (.var 6) .nil))) .nil))) (.cons (.op .sub (.cons (.op .mul (.cons (.op .neg (.cons (.var 3) .nil)) (.cons (.var 5) .nil))) (.cons (.op .mul (.cons (.var 4) (.cons (.var 6) .nil))) .nil))) .nil)))))))) .nil))))
def F74 : Fn := { np := 1, star := false, ns := 8, body := b74, keep := false }
def d74 : DefT := { g := 74, x := "inverted", qual := "inverted", st := (top 23), N := ["six", "a", "b", "c", "d", "e", "f", "sign"], ps := ["six"], pv := none, muts := [], fn := F74 }
theorem ok74 : d74.Ok tb := ⟨by kernel_rfl, ⟨rfl, rfl, rfl, by decide +kernel, rfl, by decide +kernel, by decide +kernel⟩, rfl, rfl, rfl⟩
theorem bo74 : BindsOk d74 := fun _ _ _ _ _ _ us hl => match us, hl with | [_], _ => rfl
def b75 : ISs := (.cons (.set (.nm 2) (.cst (.tup [(.int (1)), (.int (0)), (.int (0)), (.int (1)), (.int (0)), (.int (0))]))) (.cons (.whl (.op .gt (.cons (.var 1) (.cons (.cst (.int (0))) .nil))) (.cons (.ife (.op .eq (.cons (.op .mod (.cons (.var 1) (.cons (.cst (.int (2))) .nil))) (.cons (.cst (.int (1))) .nil))) (.cons (.set (.nm 2) (.call 73 (.cons (.var 2) (.cons (.var 0) .nil)))) .nil) .nil) (.cons (.set (.nm 1) (.op .fdiv (.cons (.var 1) (.cons (.cst (.int (2))) .nil)))) (.cons (.ife (.op .gt (.cons (.var 1) (.cons (.cst (.int (0))) .nil))) (.cons (.set (.nm 0) (.call 73 (.cons (.var 0) (.cons (.var 0) .nil)))) .nil) .nil) .nil)))) (.cons (.ret (.var 2)) .nil)))
def F75 : Fn := { np := 2, star := false, ns := 3, body := b75, keep := false }
def d75 : DefT := { g := 75, x := "repeated", qual := "repeated", st := (top 24), N := ["six", "times", "result"], ps := ["six", "times"], pv := none, muts := [], fn := F75 }
theorem ok75 : d75.Ok tb := ⟨by kernel_rfl, ⟨rfl, rfl, rfl, by decide +kernel, rfl, by decide +kernel, by decide +kernel⟩, rfl, rfl, rfl⟩
theorem bo75 : BindsOk d75 := fun _ _ _ _ _ _ us hl => match us, hl with | [_, _], _ => rfl
def b4 : ISs := (.cons (.set (.nm 2) (.cst (.int (0)))) (.cons (.ife (.op .ne (.cons (.var 0) (.cons (.op .lst .nil) .nil))) (.cons (.set (.nm 2) (.op .ix (.cons (.var 0) (.cons (.op .mod (.cons (.var 1) (.cons (.op .len (.cons (.var 0) .nil)) .nil))) .nil)))) .nil) .nil) (.cons (.ife (.op .ge (.cons (.var 1) (.cons (.op .len (.cons (.var 0) .nil)) .nil))) (.cons (.set (.nm 2) (.op .mod (.cons (.var 2) (.cons (.cst (.int (1000003))) .nil)))) .nil) .nil) (.cons (.set (.nm 3) (.op .mod (.cons (.op .mul (.cons (.op .add (.cons (.op .add (.cons (.op .mod (.cons (.var 2) (.cons (.cst (.int (2147483629))) .nil))) (.cons (.op .mul (.cons (.cst (.int (104729))) (.cons (.var 1) .nil))) .nil))) (.cons (.cst (.int (11))) .nil))) (.cons (.cst (.int (48271))) .nil))) (.cons (.cst (.int (2147483647))) .nil)))) (.cons (.ret (.mk .lst (.cons (.op .mul (.cons (.var 2) (.cons (.op .int (.cons (.op .ge (.cons (.var 2) (.cons (.op .pow (.cons (.cst (.int (10))) (.cons (.cst (.int (18))) .nil))) .nil))) .nil)) .nil))) (.cons (.var 3) .nil)))) .nil)))))
def F4 : Fn := { np := 2, star := false, ns := 4, body := b4, keep := true }
def d4 : DefT := { g := 4, x := "_law_draws", qual := "_law_draws", st := (top 26), N := ["_law_script", "_law_k", "_law_cell", "_law_seed"], ps := ["_law_script", "_law_k"], pv := none, muts := ["return"], fn := F4 }
theorem ok4 : d4.Ok tb := ⟨by kernel_rfl, ⟨rfl, rfl, rfl, by decide +kernel, rfl, by decide +kernel, by decide +kernel⟩, rfl, rfl, rfl⟩
theorem bo4 : BindsOk d4 := fun _ _ _ _ _ _ us hl => match us, hl with | [_, _], _ => rfl
def b5 : ISs := (.cons (.ife (.op .gt (.cons (.op .ix (.cons (.var 0) (.cons (.cst (.int (0))) .nil))) (.cons (.cst (.int (0))) .nil))) (.cons (.set (.nm 2) (.op .mod (.cons (.op .ix (.cons (.var 0) (.cons (.cst (.int (0))) .nil))) (.cons (.var 1) .nil)))) (.cons (.setix (.var 0) (.cst (.int (0))) (.op .fdiv (.cons (.op .ix (.cons (.var 0) (.cons (.cst (.int (0))) .nil))) (.cons (.var 1) .nil)))) (.cons (.ret (.var 2)) .nil))) .nil) (.cons (.setix (.var 0) (.cst (.int (1))) (.op .mod (.cons (.op .add (.cons (.op .mul (.cons (.op .ix (.cons (.var 0) (.cons (.cst (.int (1))) .nil))) (.cons (.cst (.int (48271))) .nil))) (.cons (.cst (.int (11))) .nil))) (.cons (.cst (.int (2147483647))) .nil)))) (.cons (.ret (.op .mod (.cons (.op .fdiv (.cons (.op .mod (.cons (.op .mul (.cons (.op .ix (.cons (.var 0) (.cons (.cst (.int (1))) .nil))) (.cons (.op .ix (.cons (.var 0) (.cons (.cst (.int (1))) .nil))) .nil))) (.cons (.cst (.int (2147483629))) .nil))) (.cons (.cst (.int (64))) .nil))) (.cons (.var 1) .nil)))) .nil)))
def F5 : Fn := { np := 2, star := false, ns := 3, body := b5, keep := false }
def d5 : DefT := { g := 5, x := "_law_draw", qual := "_law_draw", st := (top 27), N := ["_law_draws_here", "_law_upto", "_law_digit"], ps := ["_law_draws_here", "_law_upto"], pv := none, muts := [], fn := F5 }
theorem ok5 : d5.Ok tb := ⟨by kernel_rfl, ⟨rfl, rfl, rfl, by decide +kernel, rfl, by decide +kernel, by decide +kernel⟩, rfl, rfl, rfl⟩
theorem bo5 : BindsOk d5 := fun _ _ _ _ _ _ us hl => match us, hl with | [_, _], _ => rfl
def b63 : ISs := (.cons (.set (.tp [(.nm 2), (.nm 3), (.nm 4), (.nm 5)]) (.var 0)) (.cons (.set (.tp [(.nm 6), (.nm 7), (.nm 8), (.nm 9)]) (.var 1)) (.cons (.ret (.op .tup (.cons (.op .add (.cons (.op .mul (.cons (.var 6) (.cons (.var 2) .nil))) (.cons (.op .mul (.cons (.var 7) (.cons (.var 4) .nil))) .nil))) (.cons (.op .add (.cons (.op .mul (.cons (.var 6) (.cons (.var 3) .nil))) (.cons (.op .mul (.cons (.var 7) (.cons (.var 5) .nil))) .nil))) (.cons (.op .add (.cons (.op .mul (.cons (.var 8) (.cons (.var 2) .nil))) (.cons (.op .mul (.cons (.var 9) (.cons (.var 4) .nil))) .nil))) (.cons (.op .add (.cons (.op .mul (.cons (.var 8) (.cons (.var 3) .nil))) (.cons (.op .mul (.cons (.var 9) (.cons (.var 5) .nil))) .nil))) .nil)))))) .nil)))
def F63 : Fn := { np := 2, star := false, ns := 10, body := b63, keep := false }
def d63 : DefT := { g := 63, x := "_law_product", qual := "_law_product", st := (top 28), N := ["_law_first", "_law_second", "_law_a", "_law_b", "_law_c", "_law_d", "_law_p", "_law_q", "_law_r", "_law_s"], ps := ["_law_first", "_law_second"], pv := none, muts := [], fn := F63 }
theorem ok63 : d63.Ok tb := ⟨by kernel_rfl, ⟨rfl, rfl, rfl, by decide +kernel, rfl, by decide +kernel, by decide +kernel⟩, rfl, rfl, rfl⟩
theorem bo63 : BindsOk d63 := fun _ _ _ _ _ _ us hl => match us, hl with | [_, _], _ => rfl
def b64 : ISs := (.cons (.set (.nm 1) (.op .tup (.cons (.cst (.int (1))) (.cons (.cst (.int (0))) (.cons (.cst (.int (0))) (.cons (.cst (.int (1))) .nil)))))) (.cons (.for (.nm 2) (.range (.cons (.call 5 (.cons (.var 0) (.cons (.cst (.int (5))) .nil))) .nil)) (.cons (.set (.nm 3) (.op .ix (.cons (.op .lst (.cons (.op .sub (.cons (.call 5 (.cons (.var 0) (.cons (.cst (.int (7))) .nil))) (.cons (.cst (.int (3))) .nil))) (.cons (.op .sub (.cons (.call 5 (.cons (.var 0) (.cons (.cst (.int (61))) .nil))) (.cons (.cst (.int (30))) .nil))) .nil))) (.cons (.call 5 (.cons (.var 0) (.cons (.cst (.int (2))) .nil))) .nil)))) (.cons (.set (.nm 4) (.op .lst (.cons (.op .tup (.cons (.cst (.int (1))) (.cons (.var 3) (.cons (.cst (.int (0))) (.cons (.cst (.int (1))) .nil))))) (.cons (.op .tup (.cons (.cst (.int (1))) (.cons (.cst (.int (0))) (.cons (.var 3) (.cons (.cst (.int (1))) .nil))))) (.cons (.op .tup (.cons (.cst (.int (0))) (.cons (.op .neg (.cons (.cst (.int (1))) .nil)) (.cons (.cst (.int (1))) (.cons (.cst (.int (0))) .nil))))) (.cons (.op .tup (.cons (.cst (.int (1))) (.cons (.cst (.int (0))) (.cons (.cst (.int (0))) (.cons (.op .neg (.cons (.cst (.int (1))) .nil)) .nil))))) (.cons (.op .tup (.cons (.cst (.int (0))) (.cons (.cst (.int (1))) (.cons (.cst (.int (1))) (.cons (.cst (.int (0))) .nil))))) .nil))))))) (.cons (.set (.nm 1) (.call 63 (.cons (.var 1) (.cons (.op .ix (.cons (.var 4) (.cons (.call 5 (.cons (.var 0) (.cons (.cst (.int (5))) .nil))) .nil))) .nil)))) .nil)))) (.cons (.set (.nm 5) (.op .lst (.cons (.op .sub (.cons (.call 5 (.cons (.var 0) (.cons (.cst (.int (21))) .nil))) (.cons (.cst (.int (10))) .nil))) (.cons (.op .mul (.cons (.call 5 (.cons (.var 0) (.cons (.op .pow (.cons (.cst (.int (10))) (.cons (.cst (.int (9))) .nil))) .nil))) (.cons (.op .pow (.cons (.cst (.int (10))) (.cons (.cst (.int (9))) .nil))) .nil))) (.cons (.op .sub (.cons (.cst (.int (0))) (.cons (.call 5 (.cons (.var 0) (.cons (.op .pow (.cons (.cst (.int (10))) (.cons (.cst (.int (9))) .nil))) .nil))) .nil))) .nil))))) (.cons (.ret (.op .add (.cons (.var 1) (.cons (.op .tup (.cons (.op .ix (.cons (.var 5) (.cons (.call 5 (.cons (.var 0) (.cons (.cst (.int (3))) .nil))) .nil))) (.cons (.op .ix (.cons (.var 5) (.cons (.call 5 (.cons (.var 0) (.cons (.cst (.int (3))) .nil))) .nil))) .nil))) .nil)))) .nil))))
def F64 : Fn := { np := 1, star := false, ns := 6, body := b64, keep := false }
def d64 : DefT := { g := 64, x := "_law_numbers", qual := "_law_numbers", st := (top 29), N := ["_law_draws_here", "_law_found", "_law_turn", "_law_k", "_law_factors", "_law_shift"], ps := ["_law_draws_here"], pv := none, muts := [], fn := F64 }
theorem ok64 : d64.Ok tb := ⟨by kernel_rfl, ⟨rfl, rfl, rfl, by decide +kernel, rfl, by decide +kernel, by decide +kernel⟩, rfl, rfl, rfl⟩
theorem bo64 : BindsOk d64 := fun _ _ _ _ _ _ us hl => match us, hl with | [_], _ => rfl
def b76 : ISs := (.cons (.set (.tp [(.nm 2), (.nm 3), (.nm 4), (.nm 5), (.nm 6), (.nm 7)]) (.var 0)) (.cons (.ret (.op .tup (.cons (.op .add (.cons (.op .add (.cons (.op .mul (.cons (.var 2) (.cons (.op .ix (.cons (.var 1) (.cons (.cst (.int (0))) .nil))) .nil))) (.cons (.op .mul (.cons (.var 3) (.cons (.op .ix (.cons (.var 1) (.cons (.cst (.int (1))) .nil))) .nil))) .nil))) (.cons (.var 6) .nil))) (.cons (.op .add (.cons (.op .add (.cons (.op .mul (.cons (.var 4) (.cons (.op .ix (.cons (.var 1) (.cons (.cst (.int (0))) .nil))) .nil))) (.cons (.op .mul (.cons (.var 5) (.cons (.op .ix (.cons (.var 1) (.cons (.cst (.int (1))) .nil))) .nil))) .nil))) (.cons (.var 7) .nil))) .nil)))) .nil))
def F76 : Fn := { np := 2, star := false, ns := 8, body := b76, keep := false }
def d76 : DefT := { g := 76, x := "_law_image", qual := "_law_image", st := (top 30), N := ["_law_numbers_here", "_law_point", "_law_a", "_law_b", "_law_c", "_law_d", "_law_e", "_law_f"], ps := ["_law_numbers_here", "_law_point"], pv := none, muts := [], fn := F76 }
theorem ok76 : d76.Ok tb := ⟨by kernel_rfl, ⟨rfl, rfl, rfl, by decide +kernel, rfl, by decide +kernel, by decide +kernel⟩, rfl, rfl, rfl⟩
theorem bo76 : BindsOk d76 := fun _ _ _ _ _ _ us hl => match us, hl with | [_, _], _ => rfl
def b77 : ISs := (.cons (.set (.tp [(.nm 1), (.nm 2), (.nm 3), (.nm 4), (.nm 5), (.nm 6)]) (.var 0)) (.cons (.ret (.new 21 [8] 47 (.dfl []) (.cons (.var 1) (.cons (.var 2) (.cons (.var 3) (.cons (.var 4) (.cons (.var 5) (.cons (.var 6) .nil)))))))) .nil))
def F77 : Fn := { np := 1, star := false, ns := 7, body := b77, keep := false }
def d77 : DefT := { g := 77, x := "_law_grid", qual := "_law_grid", st := (top 31), N := ["_law_numbers_here", "_law_a", "_law_b", "_law_c", "_law_d", "_law_e", "_law_f"], ps := ["_law_numbers_here"], pv := none, muts := [], fn := F77 }
theorem ok77 : d77.Ok tb := ⟨by kernel_rfl, ⟨rfl, rfl, rfl, by decide +kernel, rfl, by decide +kernel, by decide +kernel⟩, rfl, rfl, rfl⟩
theorem bo77 : BindsOk d77 := fun _ _ _ _ _ _ us hl => match us, hl with | [_], _ => rfl
def b78 : ISs := (.cons (.set (.nm 2) (.mk .lst .nil)) (.cons (.for (.nm 3) (.range (.cons (.cst (.int (3))) .nil)) (.cons (.tryn (.cons (.ife (.op .eq (.cons (.var 3) (.cons (.cst (.int (0))) .nil))) (.cons (.drop (.mth [(21, 54)] (.dfl []) (.var 0) (.cons (.var 1) .nil))) .nil) (.cons (.ife (.op .eq (.cons (.var 3) (.cons (.cst (.int (1))) .nil))) (.cons (.drop (.mth [(21, 54)] (.dfl []) (.var 0) (.cons (.var 0) (.cons (.var 1) .nil)))) .nil) (.cons (.drop (.mth [(21, 56)] (.dfl []) (.var 0) (.cons (.var 1) .nil))) .nil)) .nil)) .nil) (.cons [4] (.cons (.app (.var 2) (.cst (.str (PySem.Str.ofString "map")))) .nil) (.cons [1] (.cons (.app (.var 2) (.cst (.str (PySem.Str.ofString "integer")))) .nil) .nil))) .nil)) (.cons (.ret (.op .eq (.cons (.var 2) (.cons (.op .lst (.cons (.cst (.str (PySem.Str.ofString "map"))) (.cons (.cst (.str (PySem.Str.ofString "map"))) (.cons (.cst (.str (PySem.Str.ofString "integer"))) .nil)))) .nil)))) .nil)))
def F78 : Fn := { np := 2, star := false, ns := 4, body := b78, keep := false }
def d78 : DefT := { g := 78, x := "_law_rejected", qual := "_law_rejected", st := (top 32), N := ["_law_grid_here", "_law_value", "_law_found", "_law_function"], ps := ["_law_grid_here", "_law_value"], pv := none, muts := ["_law_found"], fn := F78 }
theorem ok78 : d78.Ok tb := ⟨by kernel_rfl, ⟨rfl, rfl, rfl, by decide +kernel, rfl, by decide +kernel, by decide +kernel⟩, rfl, rfl, rfl⟩
theorem bo78 : BindsOk d78 := fun _ _ _ _ _ _ us hl => match us, hl with | [_, _], _ => rfl
def b79 : ISs := (.cons (.set (.nm 2) (.mth [(21, 55)] (.dfl []) (.var 0) .nil)) (.cons (.par [3, 4] (.cons (.var 1) (.cons (.var 1) .nil))) (.cons (.for (.nm 5) (.range (.cons (.cst (.int (6))) .nil)) (.cons (.ife (.or (.eqo true [(21, 51), (23, 99), (24, 106), (27, 480)] [(23, 24)] (.mth [(21, 53)] (.dfl []) (.mth [(21, 56)] (.dfl []) (.var 0) (.cons (.var 5) .nil)) (.cons (.var 1) .nil)) (.var 3)) (.eqo true [(21, 51), (23, 99), (24, 106), (27, 480)] [(23, 24)] (.mth [(21, 53)] (.dfl []) (.mth [(21, 56)] (.dfl []) (.var 2) (.cons (.var 5) .nil)) (.cons (.var 1) .nil)) (.var 4))) (.cons (.ret (.cst (.bl false))) .nil) .nil) (.cons (.ife (.eqo true [(21, 51), (23, 99), (24, 106), (27, 480)] [(23, 24)] (.mth [(21, 56)] (.dfl []) (.var 0) (.cons (.op .sub (.cons (.cst (.int (0))) (.cons (.var 5) .nil))) .nil)) (.mth [(21, 56)] (.dfl []) (.var 2) (.cons (.var 5) .nil))) (.cons (.ret (.cst (.bl false))) .nil) .nil) (.cons (.ife (.op .lt (.cons (.var 5) (.cons (.cst (.int (5))) .nil))) (.cons (.par [3, 4] (.cons (.mth [(21, 53)] (.dfl []) (.var 0) (.cons (.var 3) .nil)) (.cons (.mth [(21, 53)] (.dfl []) (.var 2) (.cons (.var 4) .nil)) .nil))) .nil) .nil) .nil)))) (.cons (.ret (.cst (.bl true))) .nil))))
def F79 : Fn := { np := 2, star := false, ns := 6, body := b79, keep := false }
def d79 : DefT := { g := 79, x := "_law_powers_right", qual := "_law_powers_right", st := (top 33), N := ["_law_grid_here", "_law_point", "_law_back", "_law_image_here", "_law_start", "_law_exponent"], ps := ["_law_grid_here", "_law_point"], pv := none, muts := [], fn := F79 }
theorem ok79 : d79.Ok tb := ⟨by kernel_rfl, ⟨rfl, rfl, rfl, by decide +kernel, rfl, by decide +kernel, by decide +kernel⟩, rfl, rfl, rfl⟩
theorem bo79 : BindsOk d79 := fun _ _ _ _ _ _ us hl => match us, hl with | [_, _], _ => rfl
def b80 : ISs := (.cons (.for (.nm 1) (.range (.cons (.op .max2 (.cons (.cst (.int (1))) (.cons (.op .min2 (.cons (.cst (.int (30))) (.cons (.op .len (.cons (.var 0) .nil)) .nil))) .nil))) .nil)) (.cons (.set (.nm 2) (.call 4 (.cons (.var 0) (.cons (.var 1) .nil)))) (.cons (.set (.nm 3) (.lc (.nm 15) [15] (.range (.cons (.cst (.int (4))) .nil)) .nil (.call 64 (.cons (.var 2) .nil)))) (.cons (.set (.nm 4) (.lc (.nm 7) [7] (.seq (.var 3)) .nil (.call 77 (.cons (.var 7) .nil)))) (.cons (.set (.nm 5) (.op .tup (.cons (.op .sub (.cons (.call 5 (.cons (.var 2) (.cons (.cst (.int (2001))) .nil))) (.cons (.cst (.int (1000))) .nil))) (.cons (.op .sub (.cons (.call 5 (.cons (.var 2) (.cons (.cst (.int (2001))) .nil))) (.cons (.cst (.int (1000))) .nil))) .nil)))) (.cons (.set (.nm 6) (.var 5)) (.cons (.for (.nm 7) (.seq (.var 3)) (.cons (.set (.nm 6) (.call 76 (.cons (.var 7) (.cons (.var 6) .nil)))) .nil)) (.cons (.set (.tp [(.nm 8), (.nm 9), (.nm 10), (.nm 11)]) (.var 4)) (.cons (.ife (.or (.eqo true [(21, 51), (23, 99), (24, 106), (27, 480)] [(23, 24)] (.mth [(21, 53)] (.dfl []) (.mth [(21, 54)] (.dfl []) (.var 8) (.cons (.var 9) (.cons (.var 10) (.cons (.var 11) .nil)))) (.cons (.var 5) .nil)) (.var 6)) (.eqo true [(21, 51), (23, 99), (24, 106), (27, 480)] [(23, 24)] (.mth [(21, 54)] (.dfl []) (.var 8) .nil) (.var 8))) (.cons (.ret (.cst (.bl false))) .nil) .nil) (.cons (.ife (.eqo true [(21, 51), (23, 99), (24, 106), (27, 480)] [(23, 24)] (.mth [(21, 54)] (.dfl []) (.mth [(21, 54)] (.dfl []) (.var 8) (.cons (.var 9) .nil)) (.cons (.var 10) (.cons (.var 11) .nil))) (.mth [(21, 54)] (.dfl []) (.mth [(21, 54)] (.dfl []) (.var 8) (.cons (.var 9) (.cons (.var 10) .nil))) (.cons (.var 11) .nil))) (.cons (.ret (.cst (.bl false))) .nil) .nil) (.cons (.set (.nm 12) (.call 58 (.cons (.cst (.cls 21)) .nil))) (.cons (.ife (.or (.eqo true [(21, 51), (23, 99), (24, 106), (27, 480)] [(23, 24)] (.mth [(21, 54)] (.dfl []) (.var 8) (.cons (.mth [(21, 55)] (.dfl []) (.var 8) .nil) .nil)) (.var 12)) (.eqo true [(21, 51), (23, 99), (24, 106), (27, 480)] [(23, 24)] (.mth [(21, 54)] (.dfl []) (.mth [(21, 55)] (.dfl []) (.var 8) .nil) (.cons (.var 8) .nil)) (.var 12))) (.cons (.ret (.cst (.bl false))) .nil) .nil) (.cons (.ife (.eqo true [(21, 51), (23, 99), (24, 106), (27, 480)] [(23, 24)] (.mth [(21, 55)] (.dfl []) (.mth [(21, 54)] (.dfl []) (.var 8) (.cons (.var 9) .nil)) .nil) (.mth [(21, 54)] (.dfl []) (.mth [(21, 55)] (.dfl []) (.var 9) .nil) (.cons (.mth [(21, 55)] (.dfl []) (.var 8) .nil) .nil))) (.cons (.ret (.cst (.bl false))) .nil) .nil) (.cons (.set (.nm 13) (.call 77 (.cons (.op .add (.cons (.op (.slice false true) (.cons (.op .ix (.cons (.var 3) (.cons (.cst (.int (0))) .nil))) (.cons (.anint (.cst (.int (4)))) .nil))) (.cons (.op .tup (.cons (.op .mod (.cons (.op .ix (.cons (.op .ix (.cons (.var 3) (.cons (.cst (.int (0))) .nil))) (.cons (.cst (.int (4))) .nil))) (.cons (.cst (.int (1000))) .nil))) (.cons (.op .mod (.cons (.op .ix (.cons (.op .ix (.cons (.var 3) (.cons (.cst (.int (0))) .nil))) (.cons (.cst (.int (5))) .nil))) (.cons (.cst (.int (1000))) .nil))) .nil))) .nil))) .nil))) (.cons (.ife (.or (.not (.call 79 (.cons (.var 13) (.cons (.var 5) .nil)))) (.not (.call 78 (.cons (.var 8) (.cons (.op .ix (.cons (.op .lst (.cons (.cst .non) (.cons (.op .ix (.cons (.var 3) (.cons (.cst (.int (1))) .nil))) (.cons (.cst (.str (PySem.Str.ofString "1"))) .nil)))) (.cons (.call 5 (.cons (.var 2) (.cons (.cst (.int (3))) .nil))) .nil))) .nil))))) (.cons (.ret (.cst (.bl false))) .nil) .nil) (.cons (.ife (.eql true [(21, 51), (23, 99), (24, 106), (27, 480)] (.lc (.nm 7) [7] (.seq (.var 3)) .nil (.call 77 (.cons (.var 7) .nil))) (.var 4)) (.cons (.ret (.cst (.bl false))) .nil) .nil) (.cons (.par [14, 1] (.cons (.call 5 (.cons (.var 2) (.cons (.op .pow (.cons (.cst (.int (10))) (.cons (.cst (.int (9))) .nil))) .nil))) (.cons (.op .sub (.cons (.call 5 (.cons (.var 2) (.cons (.cst (.int (2001))) .nil))) (.cons (.cst (.int (1000))) .nil))) .nil))) (.cons (.ife (.op .ne (.cons (.prop [(21, 48)] (.mth [(21, 56)] (.dfl []) (.new 21 [8] 47 (.dfl [(.int (0))]) (.cons (.cst (.int (1))) (.cons (.var 1) (.cons (.cst (.int (0))) (.cons (.cst (.int (1))) (.cons (.cst (.int (3))) .nil)))))) (.cons (.var 14) .nil))) (.cons (.op .tup (.cons (.cst (.int (1))) (.cons (.op .mul (.cons (.var 1) (.cons (.var 14) .nil))) (.cons (.cst (.int (0))) (.cons (.cst (.int (1))) (.cons (.op .mul (.cons (.cst (.int (3))) (.cons (.var 14) .nil))) (.cons (.cst (.int (0))) .nil))))))) .nil))) (.cons (.ret (.cst (.bl false))) .nil) .nil) (.cons (.ife (.eqo true [(21, 51), (23, 99), (24, 106), (27, 480)] [(23, 24)] (.mth [(21, 56)] (.dfl []) (.new 21 [8] 47 (.dfl [(.int (0)), (.int (0))]) (.cons (.cst (.int (0))) (.cons (.op .neg (.cons (.cst (.int (1))) .nil)) (.cons (.cst (.int (1))) (.cons (.cst (.int (0))) .nil))))) (.cons (.op .sub (.cons (.cst (.int (0))) (.cons (.var 14) .nil))) .nil)) (.mth [(21, 56)] (.dfl []) (.new 21 [8] 47 (.dfl [(.int (0)), (.int (0))]) (.cons (.cst (.int (0))) (.cons (.cst (.int (1))) (.cons (.op .neg (.cons (.cst (.int (1))) .nil)) (.cons (.cst (.int (0))) .nil))))) (.cons (.op .mod (.cons (.var 14) (.cons (.cst (.int (4))) .nil))) .nil))) (.cons (.ret (.cst (.bl false))) .nil) .nil) .nil))))))))))))))))))) (.cons (.ret (.cst (.bl true))) .nil))
def F80 : Fn := { np := 1, star := false, ns := 16, body := b80, keep := false }
def d80 : DefT := { g := 80, x := "law", qual := "law", st := (top 34), N := ["_law_script", "_law_k", "_law_draws_here", "_law_some", "_law_grids", "_law_point", "_law_image_here", "_law_numbers_here", "_law_one", "_law_two", "_law_three", "_law_four", "_law_identity", "_law_small", "_law_far", "_law_turn"], ps := ["_law_script"], pv := none, muts := [], fn := F80 }
theorem ok80 : d80.Ok tb := ⟨by kernel_rfl, ⟨rfl, rfl, rfl, by decide +kernel, rfl, by decide +kernel, by decide +kernel⟩, rfl, rfl, rfl⟩
theorem bo80 : BindsOk d80 := fun _ _ _ _ _ _ us hl => match us, hl with | [_], _ => rfl
def defs : List DefT := [d70, d1, d37, d38, d39, d46, d47, d48, d49, d51, d52, d53, d54, d55, d56, d58, d71, d60, d72, d61, d62, d73, d74, d75, d4, d5, d63, d64, d76, d77, d78, d79, d80]
def T : Tab := tabOf defs
theorem T70 : T 70 = some F70 := by kernel_rfl
theorem T1 : T 1 = some F1 := by kernel_rfl
theorem T37 : T 37 = some F37 := by kernel_rfl
theorem T38 : T 38 = some F38 := by kernel_rfl
theorem T39 : T 39 = some F39 := by kernel_rfl
theorem T46 : T 46 = some F46 := by kernel_rfl
theorem T47 : T 47 = some F47 := by kernel_rfl
theorem T48 : T 48 = some F48 := by kernel_rfl
theorem T49 : T 49 = some F49 := by kernel_rfl
theorem T51 : T 51 = some F51 := by kernel_rfl
theorem T52 : T 52 = some F52 := by kernel_rfl
theorem T53 : T 53 = some F53 := by kernel_rfl
theorem T54 : T 54 = some F54 := by kernel_rfl
theorem T55 : T 55 = some F55 := by kernel_rfl
theorem T56 : T 56 = some F56 := by kernel_rfl
theorem T58 : T 58 = some F58 := by kernel_rfl
theorem T71 : T 71 = some F71 := by kernel_rfl
theorem T60 : T 60 = some F60 := by kernel_rfl
theorem T72 : T 72 = some F72 := by kernel_rfl
theorem T61 : T 61 = some F61 := by kernel_rfl
theorem T62 : T 62 = some F62 := by kernel_rfl
theorem T73 : T 73 = some F73 := by kernel_rfl
theorem T74 : T 74 = some F74 := by kernel_rfl
theorem T75 : T 75 = some F75 := by kernel_rfl
theorem T4 : T 4 = some F4 := by kernel_rfl
theorem T5 : T 5 = some F5 := by kernel_rfl
theorem T63 : T 63 = some F63 := by kernel_rfl
theorem T64 : T 64 = some F64 := by kernel_rfl
theorem T76 : T 76 = some F76 := by kernel_rfl
theorem T77 : T 77 = some F77 := by kernel_rfl
theorem T78 : T 78 = some F78 := by kernel_rfl
theorem T79 : T 79 = some F79 := by kernel_rfl
theorem T80 : T 80 = some F80 := by kernel_rfl
theorem oks : ∀ d ∈ defs, d.Ok tb := (ac ok70 (ac ok1 (ac ok37 (ac ok38 (ac ok39 (ac ok46 (ac ok47 (ac ok48 (ac ok49 (ac ok51 (ac ok52 (ac ok53 (ac ok54 (ac ok55 (ac ok56 (ac ok58 (ac ok71 (ac ok60 (ac ok72 (ac ok61 (ac ok62 (ac ok73 (ac ok74 (ac ok75 (ac ok4 (ac ok5 (ac ok63 (ac ok64 (ac ok76 (ac ok77 (ac ok78 (ac ok79 (ac ok80 an)))))))))))))))))))))))))))))))))
end KK

/-! the grid maps' defs, k07's -/
namespace KK
open PySem PyI
/-- all six below 2^k -/
def Sx (k : Nat) (s : Six) : Prop := Sm k s.a ∧ Sm k s.b ∧ Sm k s.c ∧ Sm k s.d ∧ Sm k s.e ∧ Sm k s.f
abbrev gm (s : Six) : D := .ins 21 [s.tup]
theorem smNeg {k : Nat} {i : Int} (h : Sm k i) : Sm k (-i) := by unfold Sm at *; rw [Int.natAbs_neg]; exact h
theorem smSub {k : Nat} {i j : Int} (h : Sm k i) (h2 : Sm k j) : Sm (k + 1) (i - j) := by rw [Int.sub_eq_add_neg]; exact h.add (smNeg h2)
theorem sx_comp {k l : Nat} {x y : Six} (hx : Sx k x) (hy : Sx l y) : Sx (k + l + 2) (comp x y) := by
  obtain ⟨a, b, c, d, e, f⟩ := hx
  obtain ⟨p, q, r, s, t, u⟩ := hy
  refine ⟨?_, ?_, ?_, ?_, ?_, ?_⟩ <;> simp only [comp]
  · exact ((p.mul a).add (q.mul c)).le (by omega)
  · exact ((p.mul b).add (q.mul d)).le (by omega)
  · exact ((r.mul a).add (s.mul c)).le (by omega)
  · exact ((r.mul b).add (s.mul d)).le (by omega)
  · exact ((((p.mul e).add (q.mul f)).le (by omega : l + k + 1 ≤ k + l + 1)).add (t.le (by omega))).le (by omega)
  · exact ((((r.mul e).add (s.mul f)).le (by omega : l + k + 1 ≤ k + l + 1)).add (u.le (by omega))).le (by omega)
theorem c73 (l : Nat) (x y : Six) (M : Mem) {k : Nat} (hk : k ≤ 300000) (hx : Sx k x) (hy : Sx k y) : callD T (l + 1) 73 [.d x.tup, .d y.tup] M = some (.ok (.d (comp x y).tup) M) := by
  rw [call_eq T73 rfl l _ M rfl]
  obtain ⟨a, b, c, d, e, f⟩ := hx
  obtain ⟨p, q, r, s, t, u⟩ := hy
  have m : ∀ {i j : Int}, Sm k i → Sm k j → opD .mul [.int i, .int j] = some (.int (i * j)) := fun h1 h2 => opD_mulB h1 h2 (by omega) (by omega)
  simp [F73, b73, startE, Six.tup, comp, m p a, m q c, m p b, m q d, m r a, m s c, m r b, m s d, m p e, m q f, m r e, m s f]
theorem c62 (l : Nat) (x : Six) (M : Mem) {k : Nat} (hk : k ≤ 300000) (hx : Sx k x) : callD T (l + 1) 62 [.d x.tup] M = some (.ok (.d (.int x.det)) M) := by
  rw [call_eq T62 rfl l _ M rfl]
  obtain ⟨a, b, c, d, e, f⟩ := hx
  have m : ∀ {i j : Int}, Sm k i → Sm k j → opD .mul [.int i, .int j] = some (.int (i * j)) := fun h1 h2 => opD_mulB h1 h2 (by omega) (by omega)
  have i2 : ∀ {a b c d : D} {r : List D}, L2.atI (a :: b :: c :: d :: r) 2 = some c := L2.atI_nat (j := 2) rfl
  have i3 : ∀ {a b c d : D} {r : List D}, L2.atI (a :: b :: c :: d :: r) 3 = some d := L2.atI_nat (j := 3) rfl
  simp [F62, b62, startE, Six.tup, Six.det, atI_0, atI_1, i2, i3, m a d, m b c]
theorem c74 (l : Nat) (x : Six) (M : Mem) {k : Nat} (hk : k ≤ 100000) (hx : Sx k x) (hd : x.det = 1 ∨ x.det = -1) : callD T (l + 2) 74 [.d x.tup] M = some (.ok (.d (inv6 x).tup) M) := by
  rw [call_eq T74 rfl (l + 1) _ M rfl]
  have dt := c62 l x M (by omega) hx
  obtain ⟨a, b, c, d, e, f⟩ := hx
  have m : ∀ {i j : Int}, Sm k i → Sm k j → opD .mul [.int i, .int j] = some (.int (i * j)) := fun h1 h2 => opD_mulB h1 h2 (by omega) (by omega)
  have one : ∀ (t j : Int), t = 1 ∨ t = -1 → opD .mul [.int t, .int j] = some (.int (t * j)) := fun t j h => opD_mulS _ _ (.inl (by rcases h with rfl | rfl <;> decide))
  have on2 : ∀ (t j : Int), t = 1 ∨ t = -1 → opD .mul [.int (-t), .int j] = some (.int (-t * j)) := fun t j h => opD_mulS _ _ (.inl (by rcases h with rfl | rfl <;> decide))
  have sm : ∀ {j : Int}, Sm k j → Sm k (x.det * j) := fun h => by unfold Sm at *; rcases hd with z | z <;> rw [z] <;> simpa using h
  have sn : ∀ {j : Int}, Sm k j → Sm k (-x.det * j) := fun h => by unfold Sm at *; rcases hd with z | z <;> rw [z] <;> simpa using h
  simp only [Six.tup] at dt
  simp [F74, b74, startE, Six.tup, inv6, dt, one _ _ hd, on2 _ _ hd, m (smNeg (sm d)) e, m (sn b) f, m (smNeg (sn c)) e, m (sm a) f]
theorem c46 (l : Nat) (x : D) (M : Mem) : callD T (l + 1) 46 [.rf M.length, .d x] (M ++ [.ins 20 []]) = some (.ok (.d .non) (M ++ [.ins 20 [(7, x)]])) := by
  rw [call_eq T46 rfl l _ _ rfl]
  simp [F46, b46, startE, setF_new, PyI.putF]
theorem c47s (l : Nat) (x : D) (M : Mem) : callD T (l + 1) 47 [.rf M.length, .d (.ins 20 [x]), .d (.int 0), .d (.int 0), .d (.int 0), .d (.int 0), .d (.int 0)] (M ++ [.ins 21 []]) = some (.ok (.d .non) (M ++ [.ins 21 [(8, x)]])) := by
  rw [call_eq T47 rfl l _ _ rfl]
  simp [F47, b47, startE, setF_new, PyI.putF, tyAny, tyD]
theorem c72 (l : Nat) (x : D) (M : Mem) : callD T (l + 2) 72 [.d x] M = some (.ok (.d (.ins 21 [x])) M) := by
  rw [call_eq T72 rfl (l + 1) _ M rfl]
  simp [F72, b72, startE, c46 l x M, endNew_ok, c47s l x M]
instance : Enc Six where
  enc := Six.tup
  pd := fun s => .tuple [.int s.a, .int s.b, .int s.c, .int s.d, .int s.e, .int s.f]
  toP := fun _ => by simp only [Six.tup, D.toP, toPs, Option.map_some]
  lay := fun _ => by simp only [PyData.canLay0, PyData.canLayAll0, Bool.and_self]
  dep := 1
  depth := fun _ => by simp only [PyData.depth, PyData.depthAll]; omega
  eqv := fun x y => by
    simp only [PyData.eqv, PyData.eqvAll, Bool.and_eq_true, beq_iff_eq, and_true]
    constructor
    · rintro ⟨h1, h2, h3, h4, h5, h6⟩
      exact Six.ext' h1 h2 h3 h4 h5 h6
    · rintro rfl
      exact ⟨rfl, rfl, rfl, rfl, rfl, rfl⟩
theorem eqD_six (x y : Six) : eqD x.tup y.tup = some (decide (x = y)) := eqD_enc (α := Six) x y (by decide)
theorem sx_id : Sx 1 id6 := by refine ⟨?_, ?_, ?_, ?_, ?_, ?_⟩ <;> (unfold Sm; decide)
theorem sx_le {k l : Nat} {x : Six} (h : Sx k x) (hl : k ≤ l) : Sx l x := ⟨h.1.le hl, h.2.1.le hl, h.2.2.1.le hl, h.2.2.2.1.le hl, h.2.2.2.2.1.le hl, h.2.2.2.2.2.le hl⟩
theorem sx_pow {k : Nat} {x : Six} (h : Sx k x) : ∀ n, Sx (n * (k + 2) + 1) (pow6 x n)
  | 0 => sx_le sx_id (by omega)
  | n + 1 => sx_le (sx_comp (sx_pow h n) h) (by rw [Nat.succ_mul]; omega)
theorem c48 (l : Nat) (x : Six) (M : Mem) : callD T (l + 1) 48 [.d (gm x)] M = some (.ok (.d x.tup) M) := by
  rw [call_eq T48 rfl l _ M rfl]
  simp [F48, b48, startE]
theorem c71 (l : Nat) (x : Six) (M : Mem) : callD T (l + 1) 71 [.d (gm x)] M = some (.ok (.d .non) M) := by
  rw [call_eq T71 rfl l _ M rfl]
  simp [F71, b71, startE, tyAny, tyD]
theorem c54_1 (l : Nat) (x y : Six) (M : Mem) {k : Nat} (hk : k ≤ 300000) (hx : Sx k x) (hy : Sx k y) : callD T (l + 3) 54 [.d (gm x), .d (gm y)] M = some (.ok (.d (gm (comp x y))) M) := by
  have := call_eqS T54 rfl (l + 2) [gm x, gm y] M (by simp [F54]) (by simp)
  simp only [List.map_cons, List.map_nil] at this
  rw [this]
  have e1 := c71 (l + 1) y M
  have e2 := c73 (l + 1) x y M hk hx hy
  have e3 := c72 l (comp x y).tup M
  simp [F54, b54, startE, forL, e1, e2, e3]
theorem c54_2 (l : Nat) (x y z : Six) (M : Mem) {k : Nat} (hk : k ≤ 300000) (hx : Sx k x) (hy : Sx k y) (hz : Sx k z) (hc : Sx k (comp x y)) : callD T (l + 3) 54 [.d (gm x), .d (gm y), .d (gm z)] M = some (.ok (.d (gm (comp (comp x y) z))) M) := by
  have := call_eqS T54 rfl (l + 2) [gm x, gm y, gm z] M (by simp [F54]) (by simp)
  simp only [List.map_cons, List.map_nil] at this
  rw [this]
  have e1 := c71 (l + 1) y M
  have e1' := c71 (l + 1) z M
  have e2 := c73 (l + 1) x y M hk hx hy
  have e2' := c73 (l + 1) (comp x y) z M hk hc hz
  have e3 := c72 l (comp (comp x y) z).tup M
  simp [F54, b54, startE, forL, e1, e2, e3, e1', e2']
theorem c55 (l : Nat) (x : Six) (M : Mem) {k : Nat} (hk : k ≤ 100000) (hx : Sx k x) (hd : x.det = 1 ∨ x.det = -1) : callD T (l + 3) 55 [.d (gm x)] M = some (.ok (.d (gm (inv6 x))) M) := by
  rw [call_eq T55 rfl (l + 2) _ M rfl]
  have e1 := c74 l x M hk hx hd
  have e2 := c72 l (inv6 x).tup M
  simp [F55, b55, startE, e1, e2]
theorem cls_tup (s : Six) (M : Mem) : clsOf (.d s.tup) M = none := rfl
theorem ident : D.tup [D.int 1, D.int 0, D.int 0, D.int 1, D.int 0, D.int 0] = id6.tup := rfl
theorem TD4 : T 4 = some fDraws := T4
theorem TD5 : T 5 = some fDraw := T5
abbrev Unit6 (s : Six) : Prop := s.det = 1 ∨ s.det = -1
theorem in_pm (i : Int) : inD (.int i) (.tup [.int 1, .int (-1)]) = some (decide (i = 1 ∨ i = -1)) := by
  have e1 : PyData.eqv (.int 1) (.int i) = decide (i = 1) := by
    simp only [PyData.eqv]
    by_cases h : i = 1
    · subst h; rfl
    · rw [decide_eq_false h]; simpa using fun z : (1 : Int) = i => h z.symm
  have e2 : PyData.eqv (.int (-1)) (.int i) = decide (i = -1) := by
    simp only [PyData.eqv]
    by_cases h : i = -1
    · subst h; rfl
    · rw [decide_eq_false h]; simpa using fun z : (-1 : Int) = i => h z.symm
  simp [inD, flatD, D.toP, toPs, e1, e2]
theorem c1 (l : Nat) (x : Six) (M : Mem) : callD T (l + 1) 1 [.d x.tup] M = some (.ok (.d .non) M) := by
  rw [call_eq T1 rfl l _ M rfl]
  simp [F1, b1, startE, forL, tyAny, tyD, isD, Six.tup]
theorem c60 (l : Nat) (x : Six) (M : Mem) {k : Nat} (hk : k ≤ 300000) (hx : Sx k x) (hd : Unit6 x) : callD T (l + 2) 60 [.d x.tup] M = some (.ok (.d .non) M) := by
  rw [call_eq T60 rfl (l + 1) _ M rfl]
  have e := c62 l x M hk hx
  have q := in_pm x.det
  rw [decide_eq_true hd] at q
  simp [F60, b60, startE, e, q]
theorem c47 (l : Nat) (x : Six) (M : Mem) {k : Nat} (hk : k ≤ 300000) (hx : Sx k x) (hd : Unit6 x) : callD T (l + 3) 47 [.rf M.length, .d (.int x.a), .d (.int x.b), .d (.int x.c), .d (.int x.d), .d (.int x.e), .d (.int x.f)] (M ++ [.ins 21 []]) = some (.ok (.d .non) (M ++ [.ins 21 [(8, x.tup)]])) := by
  rw [call_eq T47 rfl (l + 2) _ _ rfl]
  have e1 := c1 (l + 1) x (M ++ [.ins 21 [(8, x.tup)]])
  have e2 := c60 l x (M ++ [.ins 21 [(8, x.tup)]]) hk hx hd
  have g := getF_new M 8 [(21, 0)] 21 [(8, x.tup)] rfl
  have g : getF 8 [(21, 0)] (.rf M.length) (M ++ [.ins 21 [(8, x.tup)]]) = some x.tup := g
  simp only [Six.tup] at e1 e2 g ⊢
  simp [F47, b47, startE, setF_new, PyI.putF, tyAny, tyD, e1, e2, g]
theorem c77 (l : Nat) (x : Six) (M : Mem) {k : Nat} (hk : k ≤ 300000) (hx : Sx k x) (hd : Unit6 x) : callD T (l + 4) 77 [.d x.tup] M = some (.ok (.d (gm x)) M) := by
  rw [call_eq T77 rfl (l + 3) _ _ rfl]
  have e := c47 l x M hk hx hd
  have n := endNew_ok M 21 [8] [(8, x.tup)] rfl
  simp only [Six.tup] at e n ⊢
  simp [F77, b77, startE, e, n, Six.tup]
/-! ### the drawn numbers -/
def lin (s : Six) : D := .tup [.int s.a, .int s.b, .int s.c, .int s.d]
theorem c63 (l : Nat) (x y : Six) (M : Mem) {k : Nat} (hk : k ≤ 300000) (hx : Sx k x) (hy : Sx k y) : callD T (l + 1) 63 [.d (lin x), .d (lin y)] M = some (.ok (.d (lin (comp x y))) M) := by
  rw [call_eq T63 rfl l _ M rfl]
  obtain ⟨a, b, c, d, e, f⟩ := hx
  obtain ⟨p, q, r, s, t, u⟩ := hy
  have m : ∀ {i j : Int}, Sm k i → Sm k j → opD .mul [.int i, .int j] = some (.int (i * j)) := fun h1 h2 => opD_mulB h1 h2 (by omega) (by omega)
  simp [F63, b63, startE, lin, comp, m p a, m q c, m p b, m q d, m r a, m s c, m r b, m s d]
theorem fac_mem {v : Int} (hv : Sm 5 v) {a : D} (h : a ∈ [D.tup [.int 1, .int v, .int 0, .int 1], .tup [.int 1, .int 0, .int v, .int 1], .tup [.int 0, .int (-1), .int 1, .int 0], .tup [.int 1, .int 0, .int 0, .int (-1)], .tup [.int 0, .int 1, .int 1, .int 0]]) : ∃ s : Six, a = lin s ∧ Sx 6 s ∧ Unit6 s := by
  have sm : ∀ i : Int, i = 0 ∨ i = 1 ∨ i = -1 → Sm 6 i := fun i h => by rcases h with rfl | rfl | rfl <;> (unfold Sm; decide)
  have hv := hv.le (show 5 ≤ 6 by decide)
  simp only [List.mem_cons, List.not_mem_nil, or_false] at h
  rcases h with rfl | rfl | rfl | rfl | rfl
  · exact ⟨⟨1, v, 0, 1, 0, 0⟩, rfl, ⟨sm _ (by simp), hv, sm _ (by simp), sm _ (by simp), sm _ (by simp), sm _ (by simp)⟩, .inl (by simp [Six.det])⟩
  · exact ⟨⟨1, 0, v, 1, 0, 0⟩, rfl, ⟨sm _ (by simp), sm _ (by simp), hv, sm _ (by simp), sm _ (by simp), sm _ (by simp)⟩, .inl (by simp [Six.det])⟩
  · exact ⟨⟨0, -1, 1, 0, 0, 0⟩, rfl, ⟨sm _ (by simp), sm _ (by simp), sm _ (by simp), sm _ (by simp), sm _ (by simp), sm _ (by simp)⟩, .inl (by simp [Six.det])⟩
  · exact ⟨⟨1, 0, 0, -1, 0, 0⟩, rfl, ⟨sm _ (by simp), sm _ (by simp), sm _ (by simp), sm _ (by simp), sm _ (by simp), sm _ (by simp)⟩, .inr (by simp [Six.det])⟩
  · exact ⟨⟨0, 1, 1, 0, 0, 0⟩, rfl, ⟨sm _ (by simp), sm _ (by simp), sm _ (by simp), sm _ (by simp), sm _ (by simp), sm _ (by simp)⟩, .inr (by simp [Six.det])⟩
theorem numLoop (l : Nat) {M0 : Mem} {n : Nat} (hn : n < M0.length) : ∀ (xs : List D) (s : Six) (k : Nat) (v2 v3 v4 v5 : Option Val) (M : Mem), k + 8 * xs.length ≤ 1000 → 6 ≤ k → Dr M0 n M → Sx k s → Unit6 s →
    ∃ s' v2' v3' v4' M1, forL (.nm 2) (denSs (callD T (l + 1)) (bodyOf (hdS (tlS b64)))) xs [some (.rf n), some (.d (lin s)), v2, v3, v4, v5] M = some (.nx [some (.rf n), some (.d (lin s')), v2', v3', v4', v5] M1) ∧ Dr M0 n M1 ∧ Sx (k + 8 * xs.length) s' ∧ Unit6 s'
  | [], s, k, v2, v3, v4, v5, M, _, _, h, hs, hd => ⟨s, v2, v3, v4, M, rfl, h, hs, hd⟩
  | x :: xs, s, k, v2, v3, v4, v5, M, hk, h6, h, hs, hd => by
    obtain ⟨r1, m1, p1, q1, k1, e1⟩ := draw_ok TD5 l hn h 7 (by decide) (by decide)
    obtain ⟨r2, m2, p2, q2, k2, e2⟩ := draw_ok TD5 l hn k1 61 (by decide) (by decide)
    obtain ⟨r3, m3, p3, q3, k3, e3⟩ := draw_ok TD5 l hn k2 2 (by decide) (by decide)
    obtain ⟨r4, m4, p4, q4, k4, e4⟩ := draw_ok TD5 l hn k3 5 (by decide) (by decide)
    obtain ⟨a, ha, ea⟩ := atI_some [D.int (r1 - 3), .int (r2 - 30)] r3 p3 (by simpa using q3)
    obtain ⟨v, sv, rfl⟩ : ∃ v : Int, Sm 5 v ∧ a = .int v := by
      simp only [List.mem_cons, List.not_mem_nil, or_false] at ha
      rcases ha with rfl | rfl
      · exact ⟨_, by unfold Sm; omega, rfl⟩
      · exact ⟨_, by unfold Sm; omega, rfl⟩
    obtain ⟨b, hb, eb⟩ := atI_some [D.tup [.int 1, .int v, .int 0, .int 1], .tup [.int 1, .int 0, .int v, .int 1], .tup [.int 0, .int (-1), .int 1, .int 0], .tup [.int 1, .int 0, .int 0, .int (-1)], .tup [.int 0, .int 1, .int 1, .int 0]] r4 p4 (by simpa using q4)
    obtain ⟨g, rfl, sg, ug⟩ := fac_mem sv hb
    have e5 := c63 l s g m4 (k := k) (by omega) hs (sx_le sg h6)
    have sc := sx_comp hs sg
    have uc : Unit6 (comp s g) := by
      unfold Unit6
      rw [det_comp]
      exact unit_mul hd ug
    obtain ⟨s', v2', v3', v4', M1, f1, f2, f3, f4⟩ := numLoop l hn xs (comp s g) (k + 8) (some (.d x)) (some (.d (.int v))) (some (.d (.lst [D.tup [.int 1, .int v, .int 0, .int 1], .tup [.int 1, .int 0, .int v, .int 1], .tup [.int 0, .int (-1), .int 1, .int 0], .tup [.int 1, .int 0, .int 0, .int (-1)], .tup [.int 0, .int 1, .int 1, .int 0]]))) v5 m4 (by simp only [List.length_cons] at hk; omega) (by omega) k4 (sx_le sc (by omega)) uc
    refine ⟨s', v2', v3', v4', M1, ?_, f2, sx_le f3 (by simp only [List.length_cons]; omega), f4⟩
    rw [forL_cons (env1 := [some (.rf n), some (.d (lin s)), some (.d x), v3, v4, v5]) (by simp only [tgN]; rfl)]
    have b : denSs (callD T (l + 1)) (bodyOf (hdS (tlS b64))) [some (.rf n), some (.d (lin s)), some (.d x), v3, v4, v5] M = some (.nx [some (.rf n), some (.d (lin (comp s g))), some (.d x), some (.d (.int v)), some (.d (.lst [D.tup [.int 1, .int v, .int 0, .int 1], .tup [.int 1, .int 0, .int v, .int 1], .tup [.int 0, .int (-1), .int 1, .int 0], .tup [.int 1, .int 0, .int 0, .int (-1)], .tup [.int 0, .int 1, .int 1, .int 0]])), v5] m4) := by
      simp [b64, hdS, tlS, bodyOf, e1, e2, e3, ea, e4, eb, e5]
    rw [b, goOn_nx]
    exact f1
theorem c64 (l : Nat) {M0 M : Mem} {n : Nat} (hn : n < M0.length) (h : Dr M0 n M) : ∃ (s : Six) (M1 : Mem), Sx 100 s ∧ Unit6 s ∧ Dr M0 n M1 ∧ callD T (l + 2) 64 [.rf n] M = some (.ok (.d s.tup) M1) := by
  obtain ⟨r0, m0, p0, q0, k0, e0⟩ := draw_ok TD5 l hn h 5 (by decide) (by decide)
  obtain ⟨s, v2, v3, v4, m1, f1, k1, sx, us⟩ := numLoop l hn (rngL 0 r0) id6 6 none none none none m0 (by rw [rngL_len]; omega) (by decide) k0 (sx_le sx_id (by decide)) (.inl rfl)
  obtain ⟨r2, m2, p2, q2, k2, e2⟩ := draw_ok TD5 l hn k1 21 (by decide) (by decide)
  obtain ⟨r3, m3, p3, q3, k3, e3⟩ := draw_ok TD5 l hn k2 1000000000 (by decide) (by decide)
  obtain ⟨r4, m4, p4, q4, k4, e4⟩ := draw_ok TD5 l hn k3 1000000000 (by decide) (by decide)
  obtain ⟨r5, m5, p5, q5, k5, e5⟩ := draw_ok TD5 l hn k4 3 (by decide) (by decide)
  obtain ⟨r6, m6, p6, q6, k6, e6⟩ := draw_ok TD5 l hn k5 3 (by decide) (by decide)
  have pick : ∀ r : Int, 0 ≤ r → r < 3 → ∃ z : Int, Sm 90 z ∧ L2.atI [D.int (r2 - 10), .int (r3 * 1000000000), .int (-r4)] r = some (.int z) := by
    intro r h1 h2
    obtain ⟨a, ha, ea⟩ := atI_some [D.int (r2 - 10), .int (r3 * 1000000000), .int (-r4)] r h1 (by simpa using h2)
    simp only [List.mem_cons, List.not_mem_nil, or_false] at ha
    rcases ha with rfl | rfl | rfl
    · exact ⟨_, by unfold Sm; omega, ea⟩
    · exact ⟨_, by unfold Sm; omega, ea⟩
    · exact ⟨_, by unfold Sm; omega, ea⟩
  obtain ⟨u, su, eu⟩ := pick r5 p5 q5
  obtain ⟨w, sw, ew⟩ := pick r6 p6 q6
  have lx : 6 + 8 * (rngL 0 r0).length ≤ 100 := by rw [rngL_len]; omega
  have sx := sx_le sx lx
  refine ⟨⟨s.a, s.b, s.c, s.d, u, w⟩, m6, ⟨sx.1, sx.2.1, sx.2.2.1, sx.2.2.2.1, su.le (by decide), sw.le (by decide)⟩, us, k6, ?_⟩
  rw [call_eq T64 rfl (l + 1) _ _ rfl]
  have rr := rR_1 (M := m0) r0 p0 (by omega)
  show endFn false M.length (denSs (callD T (l + 1)) (.cons (hdS b64) (.cons (.for (.nm 2) (.range (.cons (.call 5 (.cons (.var 0) (.cons (.cst (.int 5)) .nil))) .nil)) (bodyOf (hdS (tlS b64)))) (tlS (tlS b64)))) [some (.rf n), none, none, none, none, none] M) = _
  rw [stp (env1 := [some (.rf n), some (.d (lin id6)), none, none, none, none]) (M1 := M) (by simp [b64, hdS, lin, id6]),
    stp (env1 := [some (.rf n), some (.d (lin s)), v2, v3, v4, none]) (M1 := m1) (by
      rw [eS_for]
      simp only [eI_range, eEs_cons, eEs_nil, eE_call, eE_var, eE_cst, List.getElem?_cons_zero, bnd_ok, e0, rr, bndS_ok]
      exact f1)]
  have tk : m6.take M.length = m6 := List.take_of_length_le (by rw [k6.len, h.len]; exact Nat.le_refl _)
  have z := opD_addT [.int s.a, .int s.b, .int s.c, .int s.d] [.int u, .int w] (by simp)
  simp only [List.cons_append, List.nil_append] at z
  simp [b64, tlS, pow9, e2, e3, e4, e5, e6, eu, ew, opD_mulS _ 1000000000 (.inr (by decide)), lin, Six.tup, z, tk]
abbrev pt (x y : Int) : D := .tup [.int x, .int y]
@[simp] theorem eqD_pt (a b c d : Int) : eqD (.tup [.int a, .int b]) (.tup [.int c, .int d]) = some (decide (a = c ∧ b = d)) := by
  have := eqD_enc (α := Int × Int) (a, b) (c, d) (by decide)
  simp only [Prod.mk.injEq] at this
  exact this
abbrev noPt : D := .lst [.int 1, .int 2]
theorem p38 (l : Nat) (x y : Int) (M : Mem) : callD T (l + 1) 38 [.d (.lst [pt x y])] M = some (.ok (.d .non) M) := by
  rw [call_eq T38 rfl l _ M rfl]
  simp [F38, b38, startE, enumL, forL, tyAny, tyD, isD]
theorem p38b (l : Nat) (M : Mem) : callD T (l + 1) 38 [.d (.lst [noPt])] M = some (.ok (.d (.int 0)) M) := by
  rw [call_eq T38 rfl l _ M rfl]
  simp [F38, b38, startE, enumL, forL, tyAny, tyD, isD]
theorem p37 (l : Nat) (x y : Int) (M : Mem) : callD T (l + 2) 37 [.d (pt x y)] M = some (.ok (.d (.bl true)) M) := by
  rw [call_eq T37 rfl (l + 1) _ M rfl]
  simp [F37, b37, startE, p38 l x y M, isD]
theorem p37b (l : Nat) (M : Mem) : callD T (l + 2) 37 [.d noPt] M = some (.ok (.d (.bl false)) M) := by
  rw [call_eq T37 rfl (l + 1) _ M rfl]
  simp [F37, b37, startE, p38b l M, isD]
theorem p39 (l : Nat) (x y : Int) (M : Mem) : callD T (l + 3) 39 [.d (pt x y)] M = some (.ok (.d .non) M) := by
  rw [call_eq T39 rfl (l + 2) _ M rfl]
  simp [F39, b39, startE, p37 l x y M]
theorem p39b (l : Nat) (M : Mem) : callD T (l + 3) 39 [.d noPt] M = some (.ex ⟨2, []⟩ M) := by
  rw [call_eq T39 rfl (l + 2) _ M rfl]
  simp [F39, b39, startE, p37b l M]
theorem line : sizeLine = 16777216 := by decide
def imgX (s : Six) (x y : Int) : Int := s.a * x + s.b * y + s.e
def imgY (s : Six) (x y : Int) : Int := s.c * x + s.d * y + s.f
theorem c61 (l : Nat) (s : Six) (x y : Int) (M : Mem) {k : Nat} (hk : k ≤ 300000) (hs : Sx k s) (hx : Sm k x) (hy : Sm k y) : callD T (l + 1) 61 [.d s.tup, .d (.lst [pt x y])] M = some (.ok (.d (.lst [pt (imgX s x y) (imgY s x y)])) M) := by
  rw [call_eq T61 rfl l _ M rfl]
  obtain ⟨a, b, c, d, e, f⟩ := hs
  have m : ∀ {i j : Int}, Sm k i → Sm k j → opD .mul [.int i, .int j] = some (.int (i * j)) := fun h1 h2 => opD_mulB h1 h2 (by omega) (by omega)
  have z : 0 < sizeLine := by rw [line]; decide
  simp [F61, b61, startE, Six.tup, runLc, lcL, wipeE, m a hx, m b hy, m c hx, m d hy, imgX, imgY, z]
theorem c53 (l : Nat) (s : Six) (x y : Int) (M : Mem) {k : Nat} (hk : k ≤ 300000) (hs : Sx k s) (hx : Sm k x) (hy : Sm k y) : callD T (l + 4) 53 [.d (gm s), .d (pt x y)] M = some (.ok (.d (pt (imgX s x y) (imgY s x y))) M) := by
  rw [call_eq T53 rfl (l + 3) _ M rfl]
  simp [F53, b53, startE, p39 l x y M, c61 (l + 2) s x y M hk hs hx hy, atI_0]
theorem c53b (l : Nat) (s : Six) (M : Mem) : callD T (l + 4) 53 [.d (gm s), .d noPt] M = some (.ex ⟨2, []⟩ M) := by
  rw [call_eq T53 rfl (l + 3) _ M rfl]
  simp [F53, b53, startE, p39b l M]
theorem c51 (l : Nat) (x y : Six) (M : Mem) : callD T (l + 1) 51 [.d (gm x), .d (gm y)] M = some (.ok (.d (.bl (decide (x = y)))) M) := by
  rw [call_eq T51 rfl l _ M rfl]
  simp [F51, b51, startE, tyAny, tyD, cls_tup, eqWho, plainV, eqD_six]
theorem c58 (l : Nat) (M : Mem) : callD T (l + 4) 58 [.d (.cls 21)] M = some (.ok (.d (gm id6)) M) := by
  rw [call_eq T58 rfl (l + 3) _ M rfl]
  have e := c47 l id6 M (by omega : 1 ≤ 300000) sx_id (.inl rfl)
  have n := endNew_ok M 21 [8] [(8, id6.tup)] rfl
  simp only [Six.tup, id6] at e n ⊢
  simp [F58, b58, startE, e, n, Six.tup]
end KK

namespace KK
open PySem PyI
theorem c76 (l : Nat) (s : Six) (x y : Int) (M : Mem) {k : Nat} (hk : k ≤ 300000) (hs : Sx k s) (hx : Sm k x) (hy : Sm k y) : callD T (l + 1) 76 [.d s.tup, .d (pt x y)] M = some (.ok (.d (pt (imgX s x y) (imgY s x y))) M) := by
  rw [call_eq T76 rfl l _ M rfl]
  obtain ⟨a, b, c, d, e, f⟩ := hs
  have m : ∀ {i j : Int}, Sm k i → Sm k j → opD .mul [.int i, .int j] = some (.int (i * j)) := fun h1 h2 => opD_mulB h1 h2 (by omega) (by omega)
  simp [F76, b76, startE, Six.tup, atI_0, atI_1, m a hx, m b hy, m c hx, m d hy, imgX, imgY]
abbrev s1 : Str := PySem.Str.ofString "1"
def IsBad (v : D) : Prop := v = .non ∨ (∃ s : Six, v = s.tup) ∨ v = .str s1
theorem c71b (l : Nat) {v : D} (h : IsBad v) (M : Mem) : callD T (l + 1) 71 [.d v] M = some (.ex ⟨4, []⟩ M) := by
  rw [call_eq T71 rfl l _ M rfl]
  rcases h with rfl | ⟨s, rfl⟩ | rfl <;> simp [F71, b71, startE, tyAny, tyD, Six.tup]
theorem c70 (l : Nat) (i : Int) (M : Mem) : callD T (l + 1) 70 [.d (.int i)] M = some (.ok (.d .non) M) := by
  rw [call_eq T70 rfl l _ M rfl]
  simp [F70, b70, startE, tyAny, tyD, isD]
theorem c70b (l : Nat) {v : D} (h : IsBad v) (M : Mem) : callD T (l + 1) 70 [.d v] M = some (.ex ⟨1, []⟩ M) := by
  rw [call_eq T70 rfl l _ M rfl]
  rcases h with rfl | ⟨s, rfl⟩ | rfl <;> simp [F70, b70, startE, tyAny, tyD, Six.tup, isD]
theorem c54_0 (l : Nat) (x : Six) (M : Mem) : callD T (l + 3) 54 [.d (gm x)] M = some (.ok (.d (gm x)) M) := by
  have := call_eqS T54 rfl (l + 2) [gm x] M (by simp [F54]) (by simp)
  simp only [List.map_cons, List.map_nil] at this
  rw [this]
  have e3 := c72 l x.tup M
  simp [F54, b54, startE, forL, e3]
theorem c54_3 (l : Nat) (x y z w : Six) (M : Mem) {k : Nat} (hk : k ≤ 300000) (hx : Sx k x) (hy : Sx k y) (hz : Sx k z) (hw : Sx k w) (hc : Sx k (comp x y)) (hc2 : Sx k (comp (comp x y) z)) : callD T (l + 3) 54 [.d (gm x), .d (gm y), .d (gm z), .d (gm w)] M = some (.ok (.d (gm (comp (comp (comp x y) z) w))) M) := by
  have := call_eqS T54 rfl (l + 2) [gm x, gm y, gm z, gm w] M (by simp [F54]) (by simp)
  simp only [List.map_cons, List.map_nil] at this
  rw [this]
  have e1 := c71 (l + 1) y M
  have e1' := c71 (l + 1) z M
  have e1'' := c71 (l + 1) w M
  have e2 := c73 (l + 1) x y M hk hx hy
  have e2' := c73 (l + 1) (comp x y) z M hk hc hz
  have e2'' := c73 (l + 1) (comp (comp x y) z) w M hk hc2 hw
  have e3 := c72 l (comp (comp (comp x y) z) w).tup M
  simp [F54, b54, startE, forL, e1, e2, e3, e1', e2', e1'', e2'']
theorem c54b (l : Nat) (x : Six) {v : D} (h : IsBad v) (M : Mem) : callD T (l + 3) 54 [.d (gm x), .d v] M = some (.ex ⟨4, []⟩ M) := by
  have := call_eqS T54 rfl (l + 2) [gm x, v] M (by simp [F54]) (by simp)
  simp only [List.map_cons, List.map_nil] at this
  rw [this]
  have e1 := c71b (l + 1) h M
  simp [F54, b54, startE, forL, e1]
theorem c54b2 (l : Nat) (x y : Six) {v : D} (h : IsBad v) (M : Mem) : callD T (l + 3) 54 [.d (gm x), .d (gm y), .d v] M = some (.ex ⟨4, []⟩ M) := by
  have := call_eqS T54 rfl (l + 2) [gm x, gm y, v] M (by simp [F54]) (by simp)
  simp only [List.map_cons, List.map_nil] at this
  rw [this]
  have e0 := c71 (l + 1) y M
  have e1 := c71b (l + 1) h M
  simp [F54, b54, startE, forL, e0, e1]
abbrev whl75 : IS := hdS (tlS b75)
abbrev cond75 : IE := .op .gt (.cons (.var 1) (.cons (.cst (.int (0))) .nil))
set_option maxHeartbeats 2000000 in
/-- the loop by bits -/
theorem repLoop (l : Nat) (x : Six) (n : Nat) {k : Nat} (hk : k ≤ 300000) (hp : ∀ j, j ≤ n → Sx k (pow6 x j)) (M : Mem) : ∀ m p q : Nat, p + q * m = n → ∃ y, whl (denB (callD T (l + 1)) cond75) (denSs (callD T (l + 1)) (bodyOf whl75)) [some (.d (pow6 x q).tup), some (.d (.int (m : Int))), some (.d (pow6 x p).tup)] M =
    some (.nx [some (.d y), some (.d (.int 0)), some (.d (pow6 x n).tup)] M) := by
  intro m
  induction m using Nat.strongRecOn with
  | _ m ih =>
    intro p q hpq
    rw [whl_eq]
    by_cases h0 : m = 0
    · subst h0
      have e : p = n := by simpa using hpq
      subst e
      refine ⟨(pow6 x q).tup, ?_⟩
      simp
    · have hm : 0 < (m : Int) := by omega
      have hq : q ≤ n := by
        have := Nat.le_mul_of_pos_right q (by omega : 0 < m)
        omega
      have sq := hp q hq
      -- the new numbers
      obtain ⟨r, hr⟩ : ∃ r, r = (if m % 2 = 1 then p + q else p) := ⟨_, rfl⟩
      have hm2 : m = 2 * (m / 2) + m % 2 := by omega
      have hrn : r + (2 * q) * (m / 2) = n := by
        rw [← hpq, hr]
        have e : q * m = 2 * q * (m / 2) + q * (m % 2) := by
          conv => lhs; rw [hm2]
          rw [Nat.mul_add, ← Nat.mul_assoc, Nat.mul_comm q 2]
        rw [e]
        split
        · rename_i h; rw [h]; omega
        · have : m % 2 = 0 := by omega
          rw [this]; omega
      have hrl : r ≤ n := by omega
      obtain ⟨q', hq'⟩ : ∃ q', q' = (if 0 < m / 2 then 2 * q else q) := ⟨_, rfl⟩
      have hrn' : r + q' * (m / 2) = n := by
        rw [hq']
        split
        · exact hrn
        · have z : m / 2 = 0 := by omega
          rw [z] at hrn ⊢
          simpa using hrn
      obtain ⟨y, hy⟩ := ih (m / 2) (by omega) r q' hrn'
      refine ⟨y, ?_⟩
      have b : denSs (callD T (l + 1)) (bodyOf whl75) [some (.d (pow6 x q).tup), some (.d (.int (m : Int))), some (.d (pow6 x p).tup)] M = some (.nx [some (.d (pow6 x q').tup), some (.d (.int ((m / 2 : Nat) : Int))), some (.d (pow6 x r).tup)] M) := by
        have dv : opD .fdiv [.int (m : Int), .int 2] = some (.int ((m : Int) / 2)) := fdivO _ 2 (by decide)
        have e2 : ∀ h : 2 * q ≤ n, callD T (l + 1) 73 [.d (pow6 x q).tup, .d (pow6 x q).tup] M = some (.ok (.d (pow6 x (2 * q)).tup) M) := fun h => by
          have := c73 l (pow6 x q) (pow6 x q) M hk sq sq
          rwa [← pow_add, ← Nat.two_mul] at this
        have st1 : denS (callD T (l + 1)) (hdS (bodyOf whl75)) [some (.d (pow6 x q).tup), some (.d (.int (m : Int))), some (.d (pow6 x p).tup)] M = some (.nx [some (.d (pow6 x q).tup), some (.d (.int (m : Int))), some (.d (pow6 x r).tup)] M) := by
          by_cases h1 : m % 2 = 1
          · have e1 := c73 l (pow6 x p) (pow6 x q) M hk (hp p (by omega)) sq
            rw [← pow_add] at e1
            rw [if_pos h1] at hr
            rw [hr]
            have md1 : opD .mod [.int (m : Int), .int 2] = some (.int 1) := by rw [opD_modP _ 2 (by decide)]; congr 2; omega
            simp [whl75, b75, hdS, tlS, bodyOf, md1, e1]
          · rw [if_neg h1] at hr
            rw [hr]
            have md' : opD .mod [.int (m : Int), .int 2] = some (.int 0) := by rw [opD_modP _ 2 (by decide)]; congr 2; omega
            simp [whl75, b75, hdS, tlS, bodyOf, md']
        have st2 : denS (callD T (l + 1)) (hdS (tlS (bodyOf whl75))) [some (.d (pow6 x q).tup), some (.d (.int (m : Int))), some (.d (pow6 x r).tup)] M = some (.nx [some (.d (pow6 x q).tup), some (.d (.int ((m / 2 : Nat) : Int))), some (.d (pow6 x r).tup)] M) := by
          simp [whl75, b75, hdS, tlS, bodyOf, dv]
        have st3 : denS (callD T (l + 1)) (hdS (tlS (tlS (bodyOf whl75)))) [some (.d (pow6 x q).tup), some (.d (.int ((m / 2 : Nat) : Int))), some (.d (pow6 x r).tup)] M = some (.nx [some (.d (pow6 x q').tup), some (.d (.int ((m / 2 : Nat) : Int))), some (.d (pow6 x r).tup)] M) := by
          by_cases h1 : 0 < m / 2
          · have hq2 : 2 * q ≤ n := by
              have := Nat.le_mul_of_pos_right (2 * q) h1
              omega
            rw [if_pos h1] at hq'
            rw [hq']
            have h1' : (0 : Int) < (m : Int) / 2 := by omega
            simp [whl75, b75, hdS, tlS, bodyOf, h1', e2 hq2]
          · rw [if_neg h1] at hq'
            rw [hq']
            have h1' : ¬ (0 : Int) < (m : Int) / 2 := by omega
            simp [whl75, b75, hdS, tlS, bodyOf, h1']
        show denSs (callD T (l + 1)) (.cons (hdS (bodyOf whl75)) (.cons (hdS (tlS (bodyOf whl75))) (.cons (hdS (tlS (tlS (bodyOf whl75)))) .nil))) _ M = _
        rw [stp st1, stp st2, stp st3]
        simp
      have cd : denB (callD T (l + 1)) cond75 [some (.d (pow6 x q).tup), some (.d (.int (m : Int))), some (.d (pow6 x p).tup)] M = some (.ok true M) := by
        have : opD .gt [.int (m : Int), .int 0] = some (.bl true) := by show some (D.bl (decide ((0 : Int) < (m : Int)))) = _; rw [decide_eq_true hm]
        simp only [cond75, eB_op, eE_op, eEs_cons, eEs_nil, eE_var, eE_cst, List.getElem?_cons_succ, List.getElem?_cons_zero, bnd_ok, runOp2, this, Option.map_some, toB_bl]
      rw [cd, bndS_ok, if_pos rfl, b, goOn_nx]
      exact hy
theorem c75 (l : Nat) (x : Six) (n : Nat) (M : Mem) {k : Nat} (hk : k ≤ 300000) (hp : ∀ j, j ≤ n → Sx k (pow6 x j)) (hx : Sx k x) : callD T (l + 2) 75 [.d x.tup, .d (.int (n : Int))] M = some (.ok (.d (pow6 x n).tup) M) := by
  rw [call_eq T75 rfl (l + 1) _ M rfl]
  have p1 : pow6 x 1 = x := id_comp x
  obtain ⟨y, e⟩ := repLoop l x n hk hp M n 0 1 (by omega)
  rw [p1] at e
  have e : whl (denB (callD T (l + 1)) cond75) (denSs (callD T (l + 1)) (bodyOf whl75)) [some (.d x.tup), some (.d (.int (n : Int))), some (.d id6.tup)] M = _ := e
  show endFn false M.length (denSs (callD T (l + 1)) (.cons (hdS b75) (.cons (.whl cond75 (bodyOf whl75)) (tlS (tlS b75)))) [some (.d x.tup), some (.d (.int (n : Int))), none] M) = _
  rw [stp (env1 := [some (.d x.tup), some (.d (.int (n : Int))), some (.d id6.tup)]) (M1 := M) (by simp [b75, hdS, ident]),
    stp (env1 := [some (.d y), some (.d (.int 0)), some (.d (pow6 x n).tup)]) (M1 := M) (by rw [eS_whl]; exact e)]
  simp [b75, tlS]
end KK

namespace KK
open PySem PyI
theorem inv_comp_rev {x y : Six} (hx : Unit6 x) (hy : Unit6 y) : inv6 (comp x y) = comp (inv6 y) (inv6 x) := by
  have hxy : Unit6 (comp x y) := by unfold Unit6; rw [det_comp]; exact unit_mul hx hy
  have e : comp (comp x y) (comp (inv6 y) (inv6 x)) = id6 := by
    have : comp (comp x y) (comp (inv6 y) (inv6 x)) = comp x (comp (comp y (inv6 y)) (inv6 x)) := by simp only [comp_assoc]
    rw [this, comp_inv hy, id_comp, comp_inv hx]
  have e2 := congrArg (comp (inv6 (comp x y))) e
  rw [← comp_assoc, inv_comp hxy, id_comp, comp_id] at e2
  exact e2.symm
theorem unit_inv {x : Six} (h : Unit6 x) : Unit6 (inv6 x) := by unfold Unit6; rw [det_inv h]; exact h
theorem sx_inv {k : Nat} {x : Six} (h : Sx k x) (hd : Unit6 x) : Sx (2 * k + 2) (inv6 x) := by
  obtain ⟨a, b, c, d, e, f⟩ := h
  have sm : ∀ {j : Int}, Sm k j → Sm k (x.det * j) := fun h => by unfold Sm at *; rcases hd with z | z <;> rw [z] <;> simpa using h
  have sn : ∀ {j : Int}, Sm k j → Sm k (-x.det * j) := fun h => by unfold Sm at *; rcases hd with z | z <;> rw [z] <;> simpa using h
  refine ⟨(sm d).le (by omega), (sn b).le (by omega), (sn c).le (by omega), (sm a).le (by omega), ?_, ?_⟩
  · exact (smSub ((smNeg (sm d)).mul e) ((sn b).mul f)).le (by omega)
  · exact (smSub ((smNeg (sn c)).mul e) ((sm a).mul f)).le (by omega)
/-- power: 0 and up -/
theorem c56 (l : Nat) (x : Six) (n : Nat) (M : Mem) {k : Nat} (hk : k ≤ 300000) (hp : ∀ j, j ≤ n → Sx k (pow6 x j)) (hx : Sx k x) : callD T (l + 3) 56 [.d (gm x), .d (.int (n : Int))] M = some (.ok (.d (gm (pow6 x n))) M) := by
  rw [call_eq T56 rfl (l + 2) _ M rfl]
  have e1 := c70 (l + 1) n M
  have e2 := c75 l x n M hk hp hx
  have e3 := c72 l (pow6 x n).tup M
  have h0 : ¬ (n : Int) < 0 := by omega
  simp [F56, b56, startE, e1, h0, e2, e3]
/-- .. and below -/
theorem c56n (l : Nat) (x : Six) (n : Nat) (hn : 0 < n) (M : Mem) {k : Nat} (hk : k ≤ 100000) (hd : Unit6 x) (hp : ∀ j, j ≤ n → Sx k (pow6 (inv6 x) j)) (hx : Sx k x) (hx2 : Sx k (inv6 x)) : callD T (l + 3) 56 [.d (gm x), .d (.int (-(n : Int)))] M = some (.ok (.d (gm (pow6 (inv6 x) n))) M) := by
  rw [call_eq T56 rfl (l + 2) _ M rfl]
  have e1 := c70 (l + 1) (-(n : Int)) M
  have e0 := c74 l x M hk hx hd
  have e2 := c75 l (inv6 x) n M (by omega : k ≤ 300000) hp hx2
  have e3 := c72 l (pow6 (inv6 x) n).tup M
  have h0 : -(n : Int) < 0 := by omega
  have h1 : 0 < (n : Int) := by omega
  simp [F56, b56, startE, e1, hn, e0, e2, e3]
theorem c56b (l : Nat) (x : Six) {v : D} (h : IsBad v) (M : Mem) : callD T (l + 3) 56 [.d (gm x), .d v] M = some (.ex ⟨1, []⟩ M) := by
  rw [call_eq T56 rfl (l + 2) _ M rfl]
  have e1 := c70b (l + 1) h M
  simp [F56, b56, startE, e1]
/-- points moved -/
def act (s : Six) (p : Int × Int) : Int × Int := (imgX s p.1 p.2, imgY s p.1 p.2)
theorem act_comp (s t : Six) (p : Int × Int) : act (comp s t) p = act t (act s p) := by
  unfold act imgX imgY comp
  simp only [Prod.mk.injEq]
  constructor <;> grind
theorem act_id (p : Int × Int) : act id6 p = p := by
  unfold act imgX imgY id6
  ext <;> simp
abbrev pp (p : Int × Int) : D := pt p.1 p.2
/-- shears and the quarter turn -/
theorem pow_shear (k : Int) : ∀ n : Nat, pow6 ⟨1, k, 0, 1, 3, 0⟩ n = ⟨1, k * n, 0, 1, 3 * n, 0⟩
  | 0 => by simp [pow6, id6]
  | n + 1 => by
    show comp (pow6 ⟨1, k, 0, 1, 3, 0⟩ n) ⟨1, k, 0, 1, 3, 0⟩ = _
    rw [pow_shear k n]
    apply Six.ext' <;> simp only [comp] <;> push_cast <;> grind
def quarter : Six := ⟨0, 1, -1, 0, 0, 0⟩
theorem pow_quarter (n : Nat) : pow6 quarter n = pow6 quarter (n % 4) := by
  have h4 : pow6 quarter 4 = id6 := by decide
  have e : ∀ m, pow6 quarter (4 * m) = id6 := by
    intro m
    induction m with
    | zero => rfl
    | succ m ih => rw [Nat.mul_succ, pow_add, ih, h4]; decide
  have hn : n = 4 * (n / 4) + n % 4 := by omega
  conv => lhs; rw [hn, pow_add, e, id_comp]
theorem quarter_is : inv6 ⟨0, -1, 1, 0, 0, 0⟩ = quarter := by decide
theorem quarter_sx : ∀ n, Sx 2 (pow6 quarter n) := by
  intro n
  rw [pow_quarter]
  have h : n % 4 = 0 ∨ n % 4 = 1 ∨ n % 4 = 2 ∨ n % 4 = 3 := by omega
  rcases h with h | h | h | h <;> rw [h] <;> (refine ⟨?_, ?_, ?_, ?_, ?_, ?_⟩ <;> (unfold Sm; decide))
end KK

namespace KK
open PySem PyI
theorem ok_of (s : String) : PyData.strOk (Str.ofString s) = true := by
  rw [Str.ofString_eq_toList]
  unfold PyData.strOk
  rw [Array.all_eq_true_iff_forall_mem]
  intro n hn
  simp only [List.mem_toArray, List.mem_map] at hn
  obtain ⟨c, -, rfl⟩ := hn
  have := c.valid
  simp only [UInt32.isValidChar, Nat.isValidChar] at this
  have e : c.toNat = c.val.toNat := rfl
  rw [e]
  simp only [decide_eq_true_eq]
  omega
abbrev sI : Str := PySem.Str.ofString "integer"
abbrev sM : Str := PySem.Str.ofString "map"
theorem runEq_rf {n : Nat} {M : Mem} {xs : List D} (y : D) (h : M[n]? = some (.lst xs)) : runOp .eq [.rf n, .d y] M = (eqD (.lst xs) y).map fun b => .ok (.d (.bl b)) M := by
  unfold runOp
  rw [if_neg (by decide)]
  have e : sees M [.rf n, .d y] = some [.lst xs, y] := by
    have e1 : Val.see M (.rf n) = some (.lst xs) := by
      show (match M[n]? with | some (.lst xs) => some (D.lst xs) | some (.frz xs) => some (.lst xs) | _ => none) = _
      rw [h]
    show (match Val.see M (.rf n), sees M [.d y] with | some x, some xs => some (x :: xs) | _, _ => none) = _
    rw [e1]
    rfl
  rw [e]
  show ((eqD (.lst xs) y).map D.bl).map _ = _
  cases eqD (.lst xs) y <;> rfl
theorem appV_new (xs : List D) (x : D) (M : Mem) (h : xs.length < 1000) : appV (.rf M.length) (.d x) (M ++ [.lst xs]) = some (M ++ [.lst (xs ++ [x])]) := by
  have hz : xs.length < sizeLine := by rw [line]; omega
  unfold appV
  simp [Val.hold, hz]
theorem isLst_new (xs : List D) (M : Mem) : isLst (.rf M.length) (M ++ [.lst xs]) = true := by
  show (match (M ++ [Cell.lst xs])[M.length]? with
    | some (.lst _) => true
    | _ => false) = true
  rw [mGet]
theorem runMk0 (M : Mem) : runMk .lst [] M = some (.ok (.rf M.length) (M ++ [.lst []])) := runMk_d .lst [] [] M (opD_lstS _ (by simp))
theorem c78 (l : Nat) (s : Six) {v : D} (h : IsBad v) (M : Mem) : callD T (l + 4) 78 [.d (gm s), .d v] M = some (.ok (.d (.bl true)) M) := by
  rw [call_eq T78 rfl (l + 3) _ M rfl]
  have r := rR_1 (M := M ++ [.lst []]) 3 (by decide) (by decide)
  have rl : rngL 0 3 = [.int 0, .int 1, .int 2] := rfl
  rw [rl] at r
  have e1 := c54b l s h (M ++ [.lst []])
  have e2 := c54b2 l s s h (M ++ [.lst [.str sM]])
  have e3 := c56b l s h (M ++ [.lst [.str sM, .str sM]])
  have i1 := isLst_new [] M
  have i2 := isLst_new [.str sM] M
  have i3 := isLst_new [.str sM, .str sM] M
  have a1 := appV_new [] (.str sM) M (by simp)
  have a2 := appV_new [.str sM] (.str sM) M (by simp)
  have a3 := appV_new [.str sM, .str sM] (.str sI) M (by simp)
  simp only [List.nil_append, List.cons_append] at a1 a2 a3
  have q := runEq_rf (n := M.length) (M := M ++ [.lst [.str sM, .str sM, .str sI]]) (xs := [.str sM, .str sM, .str sI]) (.lst [.str sM, .str sM, .str sI]) (mGet _ _)
  have q2 := eqD_txs [⟨sM, ok_of _⟩, ⟨sM, ok_of _⟩, ⟨sI, ok_of _⟩] [⟨sM, ok_of _⟩, ⟨sM, ok_of _⟩, ⟨sI, ok_of _⟩]
  rw [decide_eq_true rfl] at q2
  simp only [List.map_cons, List.map_nil] at q2
  rw [q2] at q
  simp [F78, b78, startE, runMk0, r, forL, e1, e2, e3, i1, i2, i3, a1, a2, a3, q]
theorem sm_act {k j : Nat} {s : Six} {x y : Int} (hs : Sx k s) (hx : Sm j x) (hy : Sm j y) : Sm (k + j + 2) (imgX s x y) ∧ Sm (k + j + 2) (imgY s x y) := by
  obtain ⟨a, b, c, d, e, f⟩ := hs
  unfold imgX imgY
  exact ⟨(((a.mul hx).add (b.mul hy)).add (e.le (by omega))).le (by omega), (((c.mul hx).add (d.mul hy)).add (f.le (by omega))).le (by omega)⟩
theorem pows {k : Nat} {x : Six} (h : Sx k x) {n : Nat} (hn : n ≤ 6) : Sx (6 * (k + 2) + 1) (pow6 x n) := sx_le (sx_pow h n) (by have := Nat.mul_le_mul_right (k + 2) hn; omega)
theorem c56m (l : Nat) (s : Six) (i : Nat) (hi : i ≤ 6) (M : Mem) (hs : Sx 100 s) (hd : Unit6 s) : callD T (l + 3) 56 [.d (gm s), .d (.int (-(i : Int)))] M = some (.ok (.d (gm (pow6 (inv6 s) i))) M) := by
  have si := sx_inv hs hd
  by_cases h : i = 0
  · subst h
    have := c56 l s 0 M (k := 2000) (by omega) (fun j hj => sx_le (pows hs (by omega : j ≤ 6)) (by omega)) (sx_le hs (by omega))
    exact this
  · exact c56n l s i (by omega) M (k := 2000) (by omega) hd (fun j hj => sx_le (pows si (by omega : j ≤ 6)) (by omega)) (sx_le hs (by omega)) (sx_le si (by omega))
set_option maxHeartbeats 1000000 in
theorem turn79 (l : Nat) (s : Six) (p : Int × Int) (M : Mem) (hs : Sx 100 s) (hd : Unit6 s) (hx : Sm 100 p.1) (hy : Sm 100 p.2) (i : Nat) (hi : i < 6) (v : Option Val) :
    denSs (callD T (l + 4)) (bodyOf (hdS (tlS (tlS b79)))) [some (.d (gm s)), some (.d (pp p)), some (.d (gm (inv6 s))), some (.d (pp (act (pow6 s i) p))), some (.d (pp (act (pow6 (inv6 s) i) p))), some (.d (.int (i : Int)))] M =
      some (.nx [some (.d (gm s)), some (.d (pp p)), some (.d (gm (inv6 s))), some (.d (pp (act (pow6 s (if i < 5 then i + 1 else i)) p))), some (.d (pp (act (pow6 (inv6 s) (if i < 5 then i + 1 else i)) p))), some (.d (.int (i : Int)))] M) := by
  have si := sx_inv hs hd
  have ps := sx_le (pows hs (by omega : i ≤ 6)) (by omega : _ ≤ 3000)
  have pi := sx_le (pows si (by omega : i ≤ 6)) (by omega : _ ≤ 3000)
  have g1 := c56 (l + 1) s i M (k := 2000) (by omega) (fun j hj => sx_le (pows hs (by omega : j ≤ 6)) (by omega)) (sx_le hs (by omega))
  have g2 := c56 (l + 1) (inv6 s) i M (k := 2000) (by omega) (fun j hj => sx_le (pows si (by omega : j ≤ 6)) (by omega)) (sx_le si (by omega))
  have g3 := c56m (l + 1) s i (by omega) M hs hd
  have a1 := c53 l (pow6 s i) p.1 p.2 M (k := 3000) (by omega) ps (hx.le (by omega)) (hy.le (by omega))
  have a2 := c53 l (pow6 (inv6 s) i) p.1 p.2 M (k := 3000) (by omega) pi (hx.le (by omega)) (hy.le (by omega))
  have m1 := sm_act (sx_le (pows hs (by omega : i ≤ 6)) (by omega : _ ≤ 2000)) hx hy
  have m2 := sm_act (sx_le (pows si (by omega : i ≤ 6)) (by omega : _ ≤ 2000)) hx hy
  have b1 := c53 l s (act (pow6 s i) p).1 (act (pow6 s i) p).2 M (k := 3000) (by omega) (sx_le hs (by omega)) (m1.1.le (by omega)) (m1.2.le (by omega))
  have b2 := c53 l (inv6 s) (act (pow6 (inv6 s) i) p).1 (act (pow6 (inv6 s) i) p).2 M (k := 3000) (by omega) (sx_le si (by omega)) (m2.1.le (by omega)) (m2.2.le (by omega))
  have e51 := c51 (l + 3) (pow6 (inv6 s) i) (pow6 (inv6 s) i) M
  rw [decide_eq_true rfl] at e51
  have u1 : act s (act (pow6 s i) p) = act (pow6 s (i + 1)) p := (act_comp (pow6 s i) s p).symm
  have u2 : act (inv6 s) (act (pow6 (inv6 s) i) p) = act (pow6 (inv6 s) (i + 1)) p := (act_comp (pow6 (inv6 s) i) (inv6 s) p).symm
  have a1 : callD T (l + 4) 53 [.d (gm (pow6 s i)), .d (pp p)] M = some (.ok (.d (pp (act (pow6 s i) p))) M) := a1
  have a2 : callD T (l + 4) 53 [.d (gm (pow6 (inv6 s) i)), .d (pp p)] M = some (.ok (.d (pp (act (pow6 (inv6 s) i) p))) M) := a2
  have b1 : callD T (l + 4) 53 [.d (gm s), .d (pp (act (pow6 s i) p))] M = some (.ok (.d (pp (act s (act (pow6 s i) p)))) M) := b1
  have b2 : callD T (l + 4) 53 [.d (gm (inv6 s)), .d (pp (act (pow6 (inv6 s) i) p))] M = some (.ok (.d (pp (act (inv6 s) (act (pow6 (inv6 s) i) p)))) M) := b2
  rw [u1] at b1
  rw [u2] at b2
  have cp : ∀ q : Int × Int, clsOf (.d (pp q)) M = none := fun _ => rfl
  have qq : ∀ q : Int × Int, eqD (pp q) (pp q) = some true := fun q => by
    have := eqD_pt q.1 q.2 q.1 q.2
    simpa using this
  show denSs (callD T (l + 4)) (.cons (hdS (bodyOf (hdS (tlS (tlS b79))))) (.cons (hdS (tlS (bodyOf (hdS (tlS (tlS b79)))))) (.cons (hdS (tlS (tlS (bodyOf (hdS (tlS (tlS b79))))))) .nil))) _ M = _
  rw [stp (env1 := [some (.d (gm s)), some (.d (pp p)), some (.d (gm (inv6 s))), some (.d (pp (act (pow6 s i) p))), some (.d (pp (act (pow6 (inv6 s) i) p))), some (.d (.int (i : Int)))]) (M1 := M) (by
      generalize hA : act (pow6 s i) p = A at *
      generalize hB : act (pow6 (inv6 s) i) p = B at *
      have q1 := qq A
      have q2 := qq B
      have c1 := cp A
      have c2 := cp B
      simp only [pp] at *
      simp [b79, hdS, tlS, bodyOf, g1, g2, a1, a2, c1, c2, eqWho, plainV]),
    stp (env1 := [some (.d (gm s)), some (.d (pp p)), some (.d (gm (inv6 s))), some (.d (pp (act (pow6 s i) p))), some (.d (pp (act (pow6 (inv6 s) i) p))), some (.d (.int (i : Int)))]) (M1 := M) (by
      simp [b79, hdS, tlS, bodyOf, g2, g3, eqWho, e51])]
  by_cases h5 : i < 5
  · have h5' : (i : Int) < 5 := by omega
    simp [b79, hdS, tlS, bodyOf, h5, h5', b1, b2, parSet]
  · have h5' : ¬ (i : Int) < 5 := by omega
    simp [b79, hdS, tlS, bodyOf, h5, h5']
end KK

namespace KK
open PySem PyI
theorem c79 (l : Nat) (s : Six) (p : Int × Int) (M : Mem) (hs : Sx 100 s) (hd : Unit6 s) (hx : Sm 100 p.1) (hy : Sm 100 p.2) : callD T (l + 5) 79 [.d (gm s), .d (pp p)] M = some (.ok (.d (.bl true)) M) := by
  rw [call_eq T79 rfl (l + 4) _ M rfl]
  have e0 := c55 (l + 1) s M (by omega : 100 ≤ 100000) hs hd
  have t := turn79 l s p M hs hd hx hy
  have r := rR_1 (M := M) 6 (by decide) (by decide)
  have rl : rngL 0 6 = [.int ((0 : Nat) : Int), .int ((1 : Nat) : Int), .int ((2 : Nat) : Int), .int ((3 : Nat) : Int), .int ((4 : Nat) : Int), .int ((5 : Nat) : Int)] := rfl
  rw [rl] at r
  have stp1 : ∀ (i : Nat) (hi : i < 6) (v : Option Val) (xs : List D), forL (.nm 5) (denSs (callD T (l + 4)) (bodyOf (hdS (tlS (tlS b79))))) (.int (i : Int) :: xs) [some (.d (gm s)), some (.d (pp p)), some (.d (gm (inv6 s))), some (.d (pp (act (pow6 s i) p))), some (.d (pp (act (pow6 (inv6 s) i) p))), v] M =
      forL (.nm 5) (denSs (callD T (l + 4)) (bodyOf (hdS (tlS (tlS b79))))) xs [some (.d (gm s)), some (.d (pp p)), some (.d (gm (inv6 s))), some (.d (pp (act (pow6 s (if i < 5 then i + 1 else i)) p))), some (.d (pp (act (pow6 (inv6 s) (if i < 5 then i + 1 else i)) p))), some (.d (.int (i : Int)))] M := fun i hi v xs => by
    rw [forL_cons (env1 := [some (.d (gm s)), some (.d (pp p)), some (.d (gm (inv6 s))), some (.d (pp (act (pow6 s i) p))), some (.d (pp (act (pow6 (inv6 s) i) p))), some (.d (.int (i : Int)))]) (by simp only [tgN]; rfl), t i hi none, goOn_nx]
  have stp2 : ∀ (i : Nat) (hi : i < 5) (v : Option Val) (xs : List D), forL (.nm 5) (denSs (callD T (l + 4)) (bodyOf (hdS (tlS (tlS b79))))) (.int (i : Int) :: xs) [some (.d (gm s)), some (.d (pp p)), some (.d (gm (inv6 s))), some (.d (pp (act (pow6 s i) p))), some (.d (pp (act (pow6 (inv6 s) i) p))), v] M =
      forL (.nm 5) (denSs (callD T (l + 4)) (bodyOf (hdS (tlS (tlS b79))))) xs [some (.d (gm s)), some (.d (pp p)), some (.d (gm (inv6 s))), some (.d (pp (act (pow6 s (i + 1)) p))), some (.d (pp (act (pow6 (inv6 s) (i + 1)) p))), some (.d (.int (i : Int)))] M := fun i hi v xs => by
    have := stp1 i (by omega) v xs
    simpa only [if_pos hi] using this
  have z1 : pp p = pp (act (pow6 s 0) p) := by rw [show pow6 s 0 = id6 from rfl, act_id]
  have z2 : pp p = pp (act (pow6 (inv6 s) 0) p) := by rw [show pow6 (inv6 s) 0 = id6 from rfl, act_id]
  show endFn false M.length (denSs (callD T (l + 4)) (.cons (hdS b79) (.cons (hdS (tlS b79)) (.cons (.for (.nm 5) (.range (.cons (.cst (.int 6)) .nil)) (bodyOf (hdS (tlS (tlS b79))))) (tlS (tlS (tlS b79)))))) [some (.d (gm s)), some (.d (pp p)), none, none, none, none] M) = _
  rw [stp (env1 := [some (.d (gm s)), some (.d (pp p)), some (.d (gm (inv6 s))), none, none, none]) (M1 := M) (by simp [b79, hdS, e0]),
    stp (env1 := [some (.d (gm s)), some (.d (pp p)), some (.d (gm (inv6 s))), some (.d (pp (act (pow6 s 0) p))), some (.d (pp (act (pow6 (inv6 s) 0) p))), none]) (M1 := M) (by
      rw [← z1, ← z2]
      simp [b79, hdS, tlS, parSet])]
  have fin : denS (callD T (l + 4)) (.for (.nm 5) (.range (.cons (.cst (.int 6)) .nil)) (bodyOf (hdS (tlS (tlS b79))))) [some (.d (gm s)), some (.d (pp p)), some (.d (gm (inv6 s))), some (.d (pp (act (pow6 s 0) p))), some (.d (pp (act (pow6 (inv6 s) 0) p))), none] M = some (.nx [some (.d (gm s)), some (.d (pp p)), some (.d (gm (inv6 s))), some (.d (pp (act (pow6 s 5) p))), some (.d (pp (act (pow6 (inv6 s) 5) p))), some (.d (.int ((5 : Nat) : Int)))] M) := by
    rw [eS_for]
    simp only [eI_range, eEs_cons, eEs_nil, eE_cst, bnd_ok, r, bndS_ok]
    have w0 := stp2 0 (by decide) none [.int ((1 : Nat) : Int), .int ((2 : Nat) : Int), .int ((3 : Nat) : Int), .int ((4 : Nat) : Int), .int ((5 : Nat) : Int)]
    have w1 := stp2 1 (by decide) (some (.d (.int ((0 : Nat) : Int)))) [.int ((2 : Nat) : Int), .int ((3 : Nat) : Int), .int ((4 : Nat) : Int), .int ((5 : Nat) : Int)]
    have w2 := stp2 2 (by decide) (some (.d (.int ((1 : Nat) : Int)))) [.int ((3 : Nat) : Int), .int ((4 : Nat) : Int), .int ((5 : Nat) : Int)]
    have w3 := stp2 3 (by decide) (some (.d (.int ((2 : Nat) : Int)))) [.int ((4 : Nat) : Int), .int ((5 : Nat) : Int)]
    have w4 := stp2 4 (by decide) (some (.d (.int ((3 : Nat) : Int)))) [.int ((5 : Nat) : Int)]
    have w5 := stp1 5 (by decide) (some (.d (.int ((4 : Nat) : Int)))) []
    exact w0.trans (w1.trans (w2.trans (w3.trans (w4.trans w5))))
  rw [stp fin]
  simp [b79, tlS]
end KK

namespace KK
open PySem PyI
theorem slice4 (s : Six) : opD (.slice false true) [s.tup, .int 4] = some (lin s) := rfl
theorem atI_4 {α : Type} (a b c d e : α) (xs : List α) : L2.atI (a :: b :: c :: d :: e :: xs) 4 = some e := L2.atI_nat (j := 4) rfl
theorem atI_5 {α : Type} (a b c d e f : α) (xs : List α) : L2.atI (a :: b :: c :: d :: e :: f :: xs) 5 = some f := L2.atI_nat (j := 5) rfl
abbrev for7 : IS := hdS b80
abbrev B7 : ISs := bodyOf for7
abbrev nth : Nat → ISs → ISs
  | 0, b => b
  | n + 1, b => nth n (tlS b)
theorem qq (q : Int × Int) : eqD (pp q) (pp q) = some true := by
  have := eqD_pt q.1 q.2 q.1 q.2
  simpa using this
def q0 : Six := ⟨0, -1, 1, 0, 0, 0⟩
theorem q0_sx : Sx 2 q0 := by refine ⟨?_, ?_, ?_, ?_, ?_, ?_⟩ <;> (unfold Sm; decide)
theorem q1_sx : Sx 2 quarter := by refine ⟨?_, ?_, ?_, ?_, ?_, ?_⟩ <;> (unfold Sm; decide)
theorem back56 (l : Nat) (n : Nat) (M : Mem) : callD T (l + 3) 56 [.d (gm q0), .d (.int (-(n : Int)))] M = some (.ok (.d (gm (pow6 quarter n))) M) := by
  by_cases h : n = 0
  · subst h
    exact c56 l q0 0 M (k := 2) (by omega) (fun j hj => by have : j = 0 := by omega
                                                           subst this; exact sx_le sx_id (by decide)) q0_sx
  · have := c56n l q0 n (by omega) M (k := 2) (by omega) (.inl (by decide)) (fun j hj => by rw [show inv6 q0 = quarter from quarter_is]; exact quarter_sx j) q0_sx (by rw [show inv6 q0 = quarter from quarter_is]; exact q1_sx)
    rwa [show inv6 q0 = quarter from quarter_is] at this
theorem mk47 (l : Nat) (s : Six) (M : Mem) {k : Nat} (hk : k ≤ 300000) (hs : Sx k s) (hd : Unit6 s) : endNew 21 [8] M.length (callD T (l + 3) 47 [.rf M.length, .d (.int s.a), .d (.int s.b), .d (.int s.c), .d (.int s.d), .d (.int s.e), .d (.int s.f)] (M ++ [.ins 21 []])) = some (.ok (.d (gm s)) M) := by
  rw [c47 l s M hk hs hd]
  exact endNew_ok M 21 [8] [(8, s.tup)] rfl
/-- the list of the four -/
abbrev four (f : Six → D) (a b c d : Six) : D := .lst [f a, f b, f c, f d]
theorem grids (a b c d : Six) (ha : Sx 100 a) (hb : Sx 100 b) (hc : Sx 100 c) (hd : Sx 100 d) (ua : Unit6 a) (ub : Unit6 b) (uc : Unit6 c) (ud : Unit6 d) (v0 v1 v2 v3 v4 v5 v6 v7 v8 v9 v10 v11 v12 v13 v14 v15 : Option Val) (M : Mem) :
    runLc (callD T 20) (.nm 7) [7] .nil (.call 77 (.cons (.var 7) .nil)) [v0, v1, v2, v3, v4, v5, v6, v7, v8, v9, v10, v11, v12, v13, v14, v15] [a.tup, b.tup, c.tup, d.tup] M = some (.ok [gm a, gm b, gm c, gm d] M) := by
  have r := runLc_map (C := callD T 20) (tg := .nm 7) (own := [7]) (e := .call 77 (.cons (.var 7) .nil)) (env := [v0, v1, v2, v3, v4, v5, v6, v7, v8, v9, v10, v11, v12, v13, v14, v15]) (fun x => .ins 21 [x]) M (xs := [a.tup, b.tup, c.tup, d.tup]) (by
    intro x hx
    have one : ∀ s : Six, Sx 100 s → Unit6 s → ∃ env1, (Tg.nm 7).bind s.tup (wipeE [v0, v1, v2, v3, v4, v5, v6, v7, v8, v9, v10, v11, v12, v13, v14, v15] [7]) = some env1 ∧ denE (callD T 20) (.call 77 (.cons (.var 7) .nil)) env1 M = some (.ok (.d (.ins 21 [s.tup])) M) := fun s hs hu => by
      have e := c77 16 s M (by omega : 100 ≤ 300000) hs hu
      have e : callD T 20 77 [.d s.tup] M = _ := e
      exact ⟨[v0, v1, v2, v3, v4, v5, v6, some (.d s.tup), v8, v9, v10, v11, v12, v13, v14, v15], rfl, by simp [e]⟩
    simp only [List.mem_cons, List.not_mem_nil, or_false] at hx
    rcases hx with rfl | rfl | rfl | rfl
    · exact one a ha ua
    · exact one b hb ub
    · exact one c hc uc
    · exact one d hd ud) (by simp)
  exact r
set_option maxHeartbeats 2000000 in
theorem outer (xs : List Int) (hx : xs.length < 1000000) (k : Nat) (v1 v2 v3 v4 v5 v6 v7 v8 v9 v10 v11 v12 v13 v14 v15 : Option Val) (M : Mem) :
    ∃ env1 env2 M2, (Tg.nm 1).bind (.int k) [some (.d (.frl (xs.map D.int))), v1, v2, v3, v4, v5, v6, v7, v8, v9, v10, v11, v12, v13, v14, v15] = some env1 ∧ denSs (callD T 20) B7 env1 M = some (.nx env2 M2) ∧
      ∃ v1 v2 v3 v4 v5 v6 v7 v8 v9 v10 v11 v12 v13 v14 v15, env2 = [some (.d (.frl (xs.map D.int))), v1, v2, v3, v4, v5, v6, v7, v8, v9, v10, v11, v12, v13, v14, v15] := by
  obtain ⟨S, hS⟩ : ∃ S, S = Val.d (.frl (xs.map D.int)) := ⟨_, rfl⟩
  obtain ⟨m0, k0, e0⟩ := draws_ok TD4 19 xs k M hx
  rw [← hS] at e0
  rw [← hS]
  have hn : M.length < (M ++ [Cell.gone]).length := by simp
  obtain ⟨ys, m1, f1, k1, l1, p1⟩ := runLc_inv (C := callD T 20) (tg := .nm 15) (own := [15]) (e := .call 64 (.cons (.var 2) .nil)) (env := [some S, some (.d (.int k)), some (.rf M.length), v3, v4, v5, v6, v7, v8, v9, v10, v11, v12, v13, v14, v15]) (Dr (M ++ [.gone]) M.length) (fun y => ∃ s : Six, y = s.tup ∧ Sx 100 s ∧ Unit6 s) (xs := rngL 0 4) (M := m0) (by
    intro x hx M' h
    obtain ⟨s, M2, sx, us, h2, e⟩ := c64 18 hn h
    have e : callD T 20 64 [.rf M.length] M' = _ := e
    exact ⟨[some S, some (.d (.int k)), some (.rf M.length), v3, v4, v5, v6, v7, v8, v9, v10, v11, v12, v13, v14, some (.d x)], s.tup, M2, rfl, by simp [e], ⟨s, rfl, sx, us⟩, h2⟩) k0 (by rw [rngL_len]; decide)
  have l4 : ys.length = 4 := by rw [l1]; rfl
  match ys, l4, p1, f1 with
  | [y1, y2, y3, y4], _, p1, f1 =>
  obtain ⟨a, rfl, ha, ua⟩ := p1 y1 (by simp)
  obtain ⟨b, rfl, hb, ub⟩ := p1 y2 (by simp)
  obtain ⟨c, rfl, hc, uc⟩ := p1 y3 (by simp)
  obtain ⟨d, rfl, hd, ud⟩ := p1 y4 (by simp)
  obtain ⟨rx, m2, px, tx, k2, e2⟩ := draw_ok TD5 19 hn k1 2001 (by decide) (by decide)
  obtain ⟨ry, m3, py, ty, k3, e3⟩ := draw_ok TD5 19 hn k2 2001 (by decide) (by decide)
  obtain ⟨p, hp⟩ : ∃ p : Int × Int, p = (rx - 1000, ry - 1000) := ⟨_, rfl⟩
  have sp1 : Sm 100 p.1 := by rw [hp]; show Sm 100 (rx - 1000); unfold Sm; omega
  have sp2 : Sm 100 p.2 := by rw [hp]; show Sm 100 (ry - 1000); unfold Sm; omega
  obtain ⟨rv, m4, pv, tv, k4, e78d⟩ := draw_ok TD5 19 hn k3 3 (by decide) (by decide)
  obtain ⟨w, hw, ewv⟩ := atI_some [D.non, b.tup, .str s1] rv pv (by simpa using tv)
  have bad : IsBad w := by
    simp only [List.mem_cons, List.not_mem_nil, or_false] at hw
    rcases hw with rfl | rfl | rfl
    · exact .inl rfl
    · exact .inr (.inl ⟨b, rfl⟩)
    · exact .inr (.inr rfl)
  obtain ⟨rf, m5, pf, tf, k5, e15⟩ := draw_ok TD5 19 hn k4 1000000000 (by decide) (by decide)
  obtain ⟨rk, m6, pk, tk, k6, e16⟩ := draw_ok TD5 19 hn k5 2001 (by decide) (by decide)
  obtain ⟨n, rfl⟩ : ∃ n : Nat, rf = (n : Int) := ⟨rf.toNat, by omega⟩
  obtain ⟨q, hq⟩ : ∃ q : Int, q = rk - 1000 := ⟨_, rfl⟩
  have r4 := rR_1 (M := m0) 4 (by decide) (by decide)
  -- images
  obtain ⟨p2, hp2⟩ : ∃ z, z = act a p := ⟨_, rfl⟩
  obtain ⟨p3, hp3⟩ : ∃ z, z = act b p2 := ⟨_, rfl⟩
  obtain ⟨p3', hp3'⟩ : ∃ z, z = act c p3 := ⟨_, rfl⟩
  obtain ⟨p4, hp4⟩ : ∃ z, z = act d p3' := ⟨_, rfl⟩
  have w2 : Sm 202 p2.1 ∧ Sm 202 p2.2 := by rw [hp2]; exact sm_act ha sp1 sp2
  have w3 : Sm 304 p3.1 ∧ Sm 304 p3.2 := by rw [hp3]; exact sm_act hb w2.1 w2.2
  have w4 : Sm 406 p3'.1 ∧ Sm 406 p3'.2 := by rw [hp3']; exact sm_act hc w3.1 w3.2
  have i1 : callD T 20 76 [.d a.tup, .d (pp p)] m3 = some (.ok (.d (pp p2)) m3) := by rw [hp2]; exact c76 19 a p.1 p.2 m3 (k := 1000) (by omega) (sx_le ha (by omega)) (sp1.le (by omega)) (sp2.le (by omega))
  have i2 : callD T 20 76 [.d b.tup, .d (pp p2)] m3 = some (.ok (.d (pp p3)) m3) := by rw [hp3]; exact c76 19 b p2.1 p2.2 m3 (k := 1000) (by omega) (sx_le hb (by omega)) (w2.1.le (by omega)) (w2.2.le (by omega))
  have i3 : callD T 20 76 [.d c.tup, .d (pp p3)] m3 = some (.ok (.d (pp p3')) m3) := by rw [hp3']; exact c76 19 c p3.1 p3.2 m3 (k := 1000) (by omega) (sx_le hc (by omega)) (w3.1.le (by omega)) (w3.2.le (by omega))
  have i4 : callD T 20 76 [.d d.tup, .d (pp p3')] m3 = some (.ok (.d (pp p4)) m3) := by rw [hp4]; exact c76 19 d p3'.1 p3'.2 m3 (k := 1000) (by omega) (sx_le hd (by omega)) (w4.1.le (by omega)) (w4.2.le (by omega))
  have qp4 := qq p4
  have cpp : ∀ q : Int × Int, clsOf (.d (pp q)) m3 = none := fun _ => rfl
  -- compositions
  have A := sx_le ha (by omega : 100 ≤ 1000)
  have Bx := sx_le hb (by omega : 100 ≤ 1000)
  have Cx := sx_le hc (by omega : 100 ≤ 1000)
  have Dx := sx_le hd (by omega : 100 ≤ 1000)
  have AB := sx_comp ha hb
  have ABC := sx_comp AB hc
  have ABCD := sx_comp ABC hd
  have t4 : callD T 20 54 [.d (gm a), .d (gm b), .d (gm c), .d (gm d)] m3 = _ := c54_3 17 a b c d m3 (k := 1000) (by omega) A Bx Cx Dx (sx_le AB (by omega)) (sx_le ABC (by omega))
  have ap : callD T 20 53 [.d (gm (comp (comp (comp a b) c) d)), .d (pp p)] m3 = some (.ok (.d (pp p4)) m3) := by
    have := c53 16 (comp (comp (comp a b) c) d) p.1 p.2 m3 (k := 1000) (by omega) (sx_le ABCD (by omega)) (sp1.le (by omega)) (sp2.le (by omega))
    have e : act (comp (comp (comp a b) c) d) p = p4 := by rw [hp4, hp3', hp3, hp2, act_comp, act_comp, act_comp]
    rw [← e]
    exact this
  have t0 : callD T 20 54 [.d (gm a)] m3 = _ := c54_0 17 a m3
  have eaa : callD T 20 51 [.d (gm a), .d (gm a)] m3 = some (.ok (.d (.bl true)) m3) := by have := c51 19 a a m3; rwa [decide_eq_true rfl] at this
  have tab : callD T 20 54 [.d (gm a), .d (gm b)] m3 = _ := c54_1 17 a b m3 (k := 1000) (by omega) A Bx
  have tabc2 : callD T 20 54 [.d (gm (comp a b)), .d (gm c), .d (gm d)] m3 = _ := c54_2 17 (comp a b) c d m3 (k := 1000) (by omega) (sx_le AB (by omega)) Cx Dx (sx_le ABC (by omega))
  have tabc : callD T 20 54 [.d (gm a), .d (gm b), .d (gm c)] m3 = _ := c54_2 17 a b c m3 (k := 1000) (by omega) A Bx Cx (sx_le AB (by omega))
  have tabcd : callD T 20 54 [.d (gm (comp (comp a b) c)), .d (gm d)] m3 = _ := c54_1 17 (comp (comp a b) c) d m3 (k := 1000) (by omega) (sx_le ABC (by omega)) Dx
  have e44 : callD T 20 51 [.d (gm (comp (comp (comp a b) c) d)), .d (gm (comp (comp (comp a b) c) d))] m3 = some (.ok (.d (.bl true)) m3) := by have := c51 19 (comp (comp (comp a b) c) d) (comp (comp (comp a b) c) d) m3; rwa [decide_eq_true rfl] at this
  have eid : callD T 20 58 [.d (.cls 21)] m3 = _ := c58 16 m3
  have ia := sx_inv ha ua
  have ib := sx_inv hb ub
  have inva : callD T 20 55 [.d (gm a)] m3 = _ := c55 17 a m3 (by omega : 100 ≤ 100000) ha ua
  have invb : callD T 20 55 [.d (gm b)] m3 = _ := c55 17 b m3 (by omega : 100 ≤ 100000) hb ub
  have tai : callD T 20 54 [.d (gm a), .d (gm (inv6 a))] m3 = some (.ok (.d (gm id6)) m3) := by have := c54_1 17 a (inv6 a) m3 (k := 1000) (by omega) A (sx_le ia (by omega)); rwa [comp_inv ua] at this
  have tia : callD T 20 54 [.d (gm (inv6 a)), .d (gm a)] m3 = some (.ok (.d (gm id6)) m3) := by have := c54_1 17 (inv6 a) a m3 (k := 1000) (by omega) (sx_le ia (by omega)) A; rwa [inv_comp ua] at this
  have eii : callD T 20 51 [.d (gm id6), .d (gm id6)] m3 = some (.ok (.d (.bl true)) m3) := by have := c51 19 id6 id6 m3; rwa [decide_eq_true rfl] at this
  have uab : Unit6 (comp a b) := by unfold Unit6; rw [det_comp]; exact unit_mul ua ub
  have iab : callD T 20 55 [.d (gm (comp a b))] m3 = some (.ok (.d (gm (comp (inv6 b) (inv6 a)))) m3) := by have := c55 17 (comp a b) m3 (k := 1000) (by omega) (sx_le AB (by omega)) uab; rwa [inv_comp_rev ua ub] at this
  have tba : callD T 20 54 [.d (gm (inv6 b)), .d (gm (inv6 a))] m3 = _ := c54_1 17 (inv6 b) (inv6 a) m3 (k := 1000) (by omega) (sx_le ib (by omega)) (sx_le ia (by omega))
  have ebb : callD T 20 51 [.d (gm (comp (inv6 b) (inv6 a))), .d (gm (comp (inv6 b) (inv6 a)))] m3 = some (.ok (.d (.bl true)) m3) := by have := c51 19 (comp (inv6 b) (inv6 a)) (comp (inv6 b) (inv6 a)) m3; rwa [decide_eq_true rfl] at this
  -- the small one
  obtain ⟨sm, hsm⟩ : ∃ z : Six, z = ⟨a.a, a.b, a.c, a.d, a.e % 1000, a.f % 1000⟩ := ⟨_, rfl⟩
  have ssm : Sx 100 sm := by
    rw [hsm]
    exact ⟨ha.1, ha.2.1, ha.2.2.1, ha.2.2.2.1, by show Sm 100 (a.e % 1000); unfold Sm; omega, by show Sm 100 (a.f % 1000); unfold Sm; omega⟩
  have usm : Unit6 sm := by rw [hsm]; exact ua
  have esm : callD T 20 77 [.d (.tup [.int a.a, .int a.b, .int a.c, .int a.d, .int (a.e % 1000), .int (a.f % 1000)])] m3 = some (.ok (.d (gm sm)) m3) := by have := c77 16 sm m3 (by omega : 100 ≤ 300000) ssm usm; rw [hsm] at this ⊢; exact this
  have z12 := opD_addT [.int a.a, .int a.b, .int a.c, .int a.d] [.int (a.e % 1000), .int (a.f % 1000)] (by simp)
  simp only [List.cons_append, List.nil_append] at z12
  have x4 : opD .ix [a.tup, .int 4] = some (.int a.e) := by simp only [Six.tup]; simp [atI_4]
  have x5 : opD .ix [a.tup, .int 5] = some (.int a.f) := by simp only [Six.tup]; simp [atI_5]
  have e79 : callD T 20 79 [.d (gm sm), .d (pp p)] m3 = _ := c79 15 sm p m3 ssm usm sp1 sp2
  have e78 : callD T 20 78 [.d (gm a), .d w] m4 = _ := c78 16 a bad m4
  have self : ∀ s : Six, callD T 20 51 [.d (gm s), .d (gm s)] [] = some (.ok (.d (.bl true)) []) := fun s => by have := c51 19 s s []; rwa [decide_eq_true rfl] at this
  have hsame : allSame (callD T 20) [(21, 51), (23, 99), (24, 106), (27, 480)] [gm a, gm b, gm c, gm d] [gm a, gm b, gm c, gm d] :=
    ⟨⟨21, _, _, 51, rfl, rfl, rfl, self a⟩, ⟨21, _, _, 51, rfl, rfl, rfl, self b⟩, ⟨21, _, _, 51, rfl, rfl, rfl, self c⟩, ⟨21, _, _, 51, rfl, rfl, rfl, self d⟩, trivial⟩
  -- the shear
  have sq : Sm 30 q := by rw [hq]; unfold Sm; omega
  have sn : ∀ j : Nat, j ≤ n → Sm 30 (j : Int) := fun j hj => by unfold Sm; omega
  have one : Sm 100 (1 : Int) ∧ Sm 100 (0 : Int) ∧ Sm 100 (3 : Int) := by refine ⟨?_, ?_, ?_⟩ <;> (unfold Sm; decide)
  have shs : ∀ j, j ≤ n → Sx 100 (pow6 ⟨1, q, 0, 1, 3, 0⟩ j) := fun j hj => by
    rw [pow_shear]
    exact ⟨one.1, (sq.mul (sn j hj)).le (by omega), one.2.1, one.1, ((show Sm 2 (3 : Int) by unfold Sm; decide).mul (sn j hj)).le (by omega), one.2.1⟩
  have sh0 : Sx 100 (⟨1, q, 0, 1, 3, 0⟩ : Six) := ⟨one.1, sq.le (by omega), one.2.1, one.1, one.2.2, one.2.1⟩
  have mk16 : endNew 21 [8] m6.length (callD T 20 47 [.rf m6.length, .d (.int 1), .d (.int q), .d (.int 0), .d (.int 1), .d (.int 3), .d (.int 0)] (m6 ++ [.ins 21 []])) = _ := mk47 17 ⟨1, q, 0, 1, 3, 0⟩ m6 (by omega : 100 ≤ 300000) sh0 (.inl (by simp [Six.det]))
  have pw16 : callD T 20 56 [.d (gm ⟨1, q, 0, 1, 3, 0⟩), .d (.int (n : Int))] m6 = some (.ok (.d (gm ⟨1, q * n, 0, 1, 3 * n, 0⟩)) m6) := by have := c56 17 ⟨1, q, 0, 1, 3, 0⟩ n m6 (by omega : 100 ≤ 300000) shs sh0; rwa [pow_shear] at this
  have n16 : callD T 20 48 [.d (gm ⟨1, q * n, 0, 1, 3 * n, 0⟩)] m6 = _ := c48 19 ⟨1, q * n, 0, 1, 3 * n, 0⟩ m6
  have mq : opD .mul [.int q, .int (n : Int)] = some (.int (q * n)) := opD_mulB sq (sn n (by omega)) (by decide) (by decide)
  have m3n : opD .mul [.int 3, .int (n : Int)] = some (.int (3 * n)) := opD_mulS _ _ (.inl (by decide))
  have eq16 : eqD (⟨1, q * n, 0, 1, 3 * n, 0⟩ : Six).tup (.tup [.int 1, .int (q * n), .int 0, .int 1, .int (3 * n), .int 0]) = some true := by have := eqD_six ⟨1, q * n, 0, 1, 3 * n, 0⟩ ⟨1, q * n, 0, 1, 3 * n, 0⟩; rwa [decide_eq_true rfl] at this
  -- the quarter turn
  have mk17 : endNew 21 [8] m6.length (callD T 20 47 [.rf m6.length, .d (.int 0), .d (.int (-1)), .d (.int 1), .d (.int 0), .d (.int 0), .d (.int 0)] (m6 ++ [.ins 21 []])) = _ := mk47 17 q0 m6 (by omega : 2 ≤ 300000) q0_sx (.inl (by decide))
  have mk18 : endNew 21 [8] m6.length (callD T 20 47 [.rf m6.length, .d (.int 0), .d (.int 1), .d (.int (-1)), .d (.int 0), .d (.int 0), .d (.int 0)] (m6 ++ [.ins 21 []])) = _ := mk47 17 quarter m6 (by omega : 2 ≤ 300000) q1_sx (.inl (by decide))
  have bk17 : callD T 20 56 [.d (gm q0), .d (.int (-(n : Int)))] m6 = _ := back56 17 n m6
  have md18 : opD .mod [.int (n : Int), .int 4] = some (.int ((n : Int) % 4)) := opD_modP _ 4 (by decide)
  have pw18 : callD T 20 56 [.d (gm quarter), .d (.int ((n : Int) % 4))] m6 = some (.ok (.d (gm (pow6 quarter n))) m6) := by have := c56 17 quarter (n % 4) m6 (by omega : 2 ≤ 300000) (fun j _ => quarter_sx j) q1_sx; rw [← pow_quarter] at this; exact this
  have e17 : callD T 20 51 [.d (gm (pow6 quarter n)), .d (gm (pow6 quarter n))] m6 = some (.ok (.d (.bl true)) m6) := by have := c51 19 (pow6 quarter n) (pow6 quarter n) m6; rwa [decide_eq_true rfl] at this
  refine ⟨[some S, some (.d (.int k)), v2, v3, v4, v5, v6, v7, v8, v9, v10, v11, v12, v13, v14, v15], [some S, some (.d (.int q)), some (.rf M.length), some (.d (four Six.tup a b c d)), some (.d (four gm a b c d)), some (.d (pp p)), some (.d (pp p4)), some (.d d.tup), some (.d (gm a)), some (.d (gm b)), some (.d (gm c)), some (.d (gm d)), some (.d (gm id6)), some (.d (gm sm)), some (.d (.int (n : Int))), v15], m6, by simp, ?_, _, _, _, _, _, _, _, _, _, _, _, _, _, _, _, rfl⟩
  show denSs (callD T 20) (.cons (hdS (nth 0 B7)) (.cons (hdS (nth 1 B7)) (.cons (hdS (nth 2 B7)) (.cons (hdS (nth 3 B7)) (.cons (hdS (nth 4 B7)) (.cons (hdS (nth 5 B7)) (.cons (hdS (nth 6 B7)) (.cons (hdS (nth 7 B7)) (.cons (hdS (nth 8 B7)) (.cons (hdS (nth 9 B7)) (.cons (hdS (nth 10 B7)) (.cons (hdS (nth 11 B7)) (.cons (hdS (nth 12 B7)) (.cons (hdS (nth 13 B7)) (.cons (hdS (nth 14 B7)) (.cons (hdS (nth 15 B7)) (.cons (hdS (nth 16 B7)) (.cons (hdS (nth 17 B7)) (nth 18 B7))))))))))))))))))) _ M = _
  rw [stp (env1 := [some S, some (.d (.int k)), some (.rf M.length), v3, v4, v5, v6, v7, v8, v9, v10, v11, v12, v13, v14, v15]) (M1 := m0) (by
      simp [B7, for7, b80, hdS, tlS, bodyOf, nth, e0]),
    stp (env1 := [some S, some (.d (.int k)), some (.rf M.length), some (.d (four Six.tup a b c d)), v4, v5, v6, v7, v8, v9, v10, v11, v12, v13, v14, v15]) (M1 := m1) (by
      show denS (callD T 20) (.set (.nm 3) (.lc (.nm 15) [15] (.range (.cons (.cst (.int 4)) .nil)) .nil (.call 64 (.cons (.var 2) .nil)))) _ m0 = _
      rw [eS_set, eE_lc]
      simp only [eI_range, eEs_cons, eEs_nil, eE_cst, bnd_ok, r4]
      rw [f1]
      rfl),
    stp (env1 := [some S, some (.d (.int k)), some (.rf M.length), some (.d (four Six.tup a b c d)), some (.d (four gm a b c d)), v5, v6, v7, v8, v9, v10, v11, v12, v13, v14, v15]) (M1 := m1) (by
      show denS (callD T 20) (.set (.nm 4) (.lc (.nm 7) [7] (.seq (.var 3)) .nil (.call 77 (.cons (.var 7) .nil)))) _ m1 = _
      rw [eS_set, eE_lc]
      simp only [eI_seq, eE_var, List.getElem?_cons_succ, List.getElem?_cons_zero, bnd_ok, rS_l]
      rw [grids a b c d ha hb hc hd ua ub uc ud]
      rfl),
    stp (env1 := [some S, some (.d (.int k)), some (.rf M.length), some (.d (four Six.tup a b c d)), some (.d (four gm a b c d)), some (.d (pp p)), v6, v7, v8, v9, v10, v11, v12, v13, v14, v15]) (M1 := m3) (by
      rw [hp]
      simp [B7, for7, b80, hdS, tlS, bodyOf, nth, e2, e3]),
    stp (env1 := [some S, some (.d (.int k)), some (.rf M.length), some (.d (four Six.tup a b c d)), some (.d (four gm a b c d)), some (.d (pp p)), some (.d (pp p)), v7, v8, v9, v10, v11, v12, v13, v14, v15]) (M1 := m3) (by
      simp [B7, for7, b80, hdS, tlS, bodyOf, nth]),
    stp (env1 := [some S, some (.d (.int k)), some (.rf M.length), some (.d (four Six.tup a b c d)), some (.d (four gm a b c d)), some (.d (pp p)), some (.d (pp p4)), some (.d d.tup), v8, v9, v10, v11, v12, v13, v14, v15]) (M1 := m3) (by
      show denS (callD T 20) (.for (.nm 7) (.seq (.var 3)) (.cons (.set (.nm 6) (.call 76 (.cons (.var 7) (.cons (.var 6) .nil)))) .nil)) _ m3 = _
      rw [eS_for]
      simp [forL, i1, i2, i3, i4]),
    stp (env1 := [some S, some (.d (.int k)), some (.rf M.length), some (.d (four Six.tup a b c d)), some (.d (four gm a b c d)), some (.d (pp p)), some (.d (pp p4)), some (.d d.tup), some (.d (gm a)), some (.d (gm b)), some (.d (gm c)), some (.d (gm d)), v12, v13, v14, v15]) (M1 := m3) (by
      simp [B7, for7, b80, hdS, tlS, bodyOf, nth]),
    stp (env1 := [some S, some (.d (.int k)), some (.rf M.length), some (.d (four Six.tup a b c d)), some (.d (four gm a b c d)), some (.d (pp p)), some (.d (pp p4)), some (.d d.tup), some (.d (gm a)), some (.d (gm b)), some (.d (gm c)), some (.d (gm d)), v12, v13, v14, v15]) (M1 := m3) (by
      simp [B7, for7, b80, hdS, tlS, bodyOf, nth, t4, ap, cpp, eqWho, plainV, qp4, t0, eaa]),
    stp (env1 := [some S, some (.d (.int k)), some (.rf M.length), some (.d (four Six.tup a b c d)), some (.d (four gm a b c d)), some (.d (pp p)), some (.d (pp p4)), some (.d d.tup), some (.d (gm a)), some (.d (gm b)), some (.d (gm c)), some (.d (gm d)), v12, v13, v14, v15]) (M1 := m3) (by
      simp [B7, for7, b80, hdS, tlS, bodyOf, nth, tab, tabc2, tabc, tabcd, eqWho, e44]),
    stp (env1 := [some S, some (.d (.int k)), some (.rf M.length), some (.d (four Six.tup a b c d)), some (.d (four gm a b c d)), some (.d (pp p)), some (.d (pp p4)), some (.d d.tup), some (.d (gm a)), some (.d (gm b)), some (.d (gm c)), some (.d (gm d)), some (.d (gm id6)), v13, v14, v15]) (M1 := m3) (by
      simp [B7, for7, b80, hdS, tlS, bodyOf, nth, eid]),
    stp (env1 := [some S, some (.d (.int k)), some (.rf M.length), some (.d (four Six.tup a b c d)), some (.d (four gm a b c d)), some (.d (pp p)), some (.d (pp p4)), some (.d d.tup), some (.d (gm a)), some (.d (gm b)), some (.d (gm c)), some (.d (gm d)), some (.d (gm id6)), v13, v14, v15]) (M1 := m3) (by
      simp [B7, for7, b80, hdS, tlS, bodyOf, nth, inva, tai, tia, eqWho, eii]),
    stp (env1 := [some S, some (.d (.int k)), some (.rf M.length), some (.d (four Six.tup a b c d)), some (.d (four gm a b c d)), some (.d (pp p)), some (.d (pp p4)), some (.d d.tup), some (.d (gm a)), some (.d (gm b)), some (.d (gm c)), some (.d (gm d)), some (.d (gm id6)), v13, v14, v15]) (M1 := m3) (by
      simp [B7, for7, b80, hdS, tlS, bodyOf, nth, tab, iab, inva, invb, tba, eqWho, ebb]),
    stp (env1 := [some S, some (.d (.int k)), some (.rf M.length), some (.d (four Six.tup a b c d)), some (.d (four gm a b c d)), some (.d (pp p)), some (.d (pp p4)), some (.d d.tup), some (.d (gm a)), some (.d (gm b)), some (.d (gm c)), some (.d (gm d)), some (.d (gm id6)), some (.d (gm sm)), v14, v15]) (M1 := m3) (by
      simp [B7, for7, b80, hdS, tlS, bodyOf, nth, atI_0, x4, x5, opD_modP _ 1000 (by decide), slice4, lin, z12, esm]),
    stp (env1 := [some S, some (.d (.int k)), some (.rf M.length), some (.d (four Six.tup a b c d)), some (.d (four gm a b c d)), some (.d (pp p)), some (.d (pp p4)), some (.d d.tup), some (.d (gm a)), some (.d (gm b)), some (.d (gm c)), some (.d (gm d)), some (.d (gm id6)), some (.d (gm sm)), v14, v15]) (M1 := m4) (by
      simp [B7, for7, b80, hdS, tlS, bodyOf, nth, e79, atI_1, e78d, ewv, e78]),
    stp (env1 := [some S, some (.d (.int k)), some (.rf M.length), some (.d (four Six.tup a b c d)), some (.d (four gm a b c d)), some (.d (pp p)), some (.d (pp p4)), some (.d d.tup), some (.d (gm a)), some (.d (gm b)), some (.d (gm c)), some (.d (gm d)), some (.d (gm id6)), some (.d (gm sm)), v14, v15]) (M1 := m4) (by
      have gr := grids a b c d ha hb hc hd ua ub uc ud (some S) (some (.d (.int k))) (some (.rf M.length)) (some (.d (four Six.tup a b c d))) (some (.d (four gm a b c d))) (some (.d (pp p))) (some (.d (pp p4))) (some (.d d.tup)) (some (.d (gm a))) (some (.d (gm b))) (some (.d (gm c))) (some (.d (gm d))) (some (.d (gm id6))) (some (.d (gm sm))) v14 v15 m4
      show denS (callD T 20) (.ife (.eql true [(21, 51), (23, 99), (24, 106), (27, 480)] (.lc (.nm 7) [7] (.seq (.var 3)) .nil (.call 77 (.cons (.var 7) .nil))) (.var 4)) (.cons (.ret (.cst (.bl false))) .nil) .nil) _ m4 = _
      rw [eS_ife, eB_eql, eE_eql, eE_lc]
      simp only [eI_seq, eE_var, List.getElem?_cons_succ, List.getElem?_cons_zero, bnd_ok, rS_l]
      rw [gr]
      simp only [bnd_ok]
      rw [runEql_ok _ _ hsame]
      simp),
    stp (env1 := [some S, some (.d (.int q)), some (.rf M.length), some (.d (four Six.tup a b c d)), some (.d (four gm a b c d)), some (.d (pp p)), some (.d (pp p4)), some (.d d.tup), some (.d (gm a)), some (.d (gm b)), some (.d (gm c)), some (.d (gm d)), some (.d (gm id6)), some (.d (gm sm)), some (.d (.int (n : Int))), v15]) (M1 := m6) (by
      rw [hq]
      simp [B7, for7, b80, hdS, tlS, bodyOf, nth, pow9, e15, e16, parSet]),
    stp (env1 := [some S, some (.d (.int q)), some (.rf M.length), some (.d (four Six.tup a b c d)), some (.d (four gm a b c d)), some (.d (pp p)), some (.d (pp p4)), some (.d d.tup), some (.d (gm a)), some (.d (gm b)), some (.d (gm c)), some (.d (gm d)), some (.d (gm id6)), some (.d (gm sm)), some (.d (.int (n : Int))), v15]) (M1 := m6) (by
      simp [B7, for7, b80, hdS, tlS, bodyOf, nth, mk16, pw16, n16, mq, m3n, eq16]),
    stp (env1 := [some S, some (.d (.int q)), some (.rf M.length), some (.d (four Six.tup a b c d)), some (.d (four gm a b c d)), some (.d (pp p)), some (.d (pp p4)), some (.d d.tup), some (.d (gm a)), some (.d (gm b)), some (.d (gm c)), some (.d (gm d)), some (.d (gm id6)), some (.d (gm sm)), some (.d (.int (n : Int))), v15]) (M1 := m6) (by
      simp [B7, for7, b80, hdS, tlS, bodyOf, nth, mk17, bk17, mk18, md18, pw18, eqWho, e17])]
  simp [B7, for7, b80, hdS, tlS, bodyOf, nth]
theorem law_true (ns : List Int) (hl : ns.length ≤ 63) : endFn F80.keep 0 (denSs (callD T 20) F80.body (startE F80.ns [.d (.frl (ns.map D.int))]) []) = some (.ok (.d (.bl true)) []) := by
  obtain ⟨S, hS⟩ : ∃ S, S = Val.d (.frl (ns.map D.int)) := ⟨_, rfl⟩
  obtain ⟨N, hN⟩ : ∃ N : Int, N = (if 1 < (if (ns.length : Int) < 30 then (ns.length : Int) else 30) then (if (ns.length : Int) < 30 then (ns.length : Int) else 30) else 1) := ⟨_, rfl⟩
  have hN0 : 0 ≤ N ∧ N < 100 := by rw [hN]; split <;> split <;> omega
  obtain ⟨env2, M2, f2, v1, v2, v3, v4, v5, v6, v7, v8, v9, v10, v11, v12, v13, v14, v15, rfl⟩ := forL_inv (tg := .nm 1) (b := denSs (callD T 20) B7) (fun env M => ∃ v1 v2 v3 v4 v5 v6 v7 v8 v9 v10 v11 v12 v13 v14 v15, env = [some S, v1, v2, v3, v4, v5, v6, v7, v8, v9, v10, v11, v12, v13, v14, v15])
    (xs := rngL 0 N) (env := [some S, none, none, none, none, none, none, none, none, none, none, none, none, none, none, none]) (M := []) (by
      rintro x hx env M ⟨v1, v2, v3, v4, v5, v6, v7, v8, v9, v10, v11, v12, v13, v14, v15, rfl⟩
      obtain ⟨k, rfl, -⟩ := rngL_mem hx
      rw [hS]
      exact outer ns (by omega) k v1 v2 v3 v4 v5 v6 v7 v8 v9 v10 v11 v12 v13 v14 v15 M) ⟨_, _, _, _, _, _, _, _, _, _, _, _, _, _, _, rfl⟩
  have rr := rR_1 (M := []) N hN0.1 (by omega)
  have s1' : denS (callD T 20) for7 [some S, none, none, none, none, none, none, none, none, none, none, none, none, none, none, none] [] = some (.nx [some S, v1, v2, v3, v4, v5, v6, v7, v8, v9, v10, v11, v12, v13, v14, v15] M2) := by
    rw [show for7 = .for (.nm 1) (.range (.cons (.op .max2 (.cons (.cst (.int (1))) (.cons (.op .min2 (.cons (.cst (.int (30))) (.cons (.op .len (.cons (.var 0) .nil)) .nil))) .nil))) .nil)) B7 from rfl, eS_for]
    have e : denI (callD T 20) (.range (.cons (.op .max2 (.cons (.cst (.int (1))) (.cons (.op .min2 (.cons (.cst (.int (30))) (.cons (.op .len (.cons (.var 0) .nil)) .nil))) .nil))) .nil)) [some S, none, none, none, none, none, none, none, none, none, none, none, none, none, none, none] [] = some (.ok (rngL 0 N) []) := by
      rw [hN] at rr ⊢
      simp [hS, rr]
    rw [e, bndS_ok]
    exact f2
  show endFn false 0 (denSs (callD T 20) (.cons for7 (tlS b80)) [some (.d (.frl (ns.map D.int))), none, none, none, none, none, none, none, none, none, none, none, none, none, none, none] []) = _
  rw [← hS, stp s1']
  simp [b80, tlS]
end KK

namespace KK
open PySem PySem.Spec PyProof.Rows L2 PyI
def fidL : List Nat := [7, 8]
def fnmT : Nat → Str := lk "" [(7, "sound"), (8, "six")]
def cfT : Nat → List Nat := lk [] [(20, [7]), (21, [8])]
theorem hInj : ∀ f ∈ fidL, ∀ g ∈ fidL, fnmT f = fnmT g → f = g := by decide +kernel
theorem hCf : ∀ c ∈ [20, 21], ∀ f ∈ cfT c, fidL.contains f = true := by decide +kernel
set_option maxHeartbeats 0 in
theorem all_mk {l : PySem.W.OpenLaw} {w : World} {K : PySem.W.Frag} {h : Heap} {mg : Str → Option Value} {f70 f1 f37 f38 f39 f46 f47 f48 f49 f51 f52 f53 f54 f55 f56 f58 f71 f60 f72 f61 f62 f73 f74 f75 f4 f5 f63 f64 f76 f77 f78 f79 f80 c0 c1 c2 c4 c20 c21 p49_21 p48_21 p58_21 ta47 ga_IDENTITY fz : Addr} {od70 an70 od1 an1 od37 an37 od38 an38 od39 an39 od46 an46 od47 an47 od48 an48 od49 an49 od51 an51 od52 an52 od53 an53 od54 an54 od55 an55 od56 an56 od58 an58 od71 an71 od60 an60 od72 an72 od61 an61 od62 an62 od73 an73 od74 an74 od75 an75 od4 an4 od5 an5 od63 an63 od64 an64 od76 an76 od77 an77 od78 an78 od79 an79 od80 an80 tod47 god_IDENTITY : Option Addr} {sl70 sl1 sl37 sl38 sl39 sl46 sl47 sl48 sl49 sl51 sl52 sl53 sl54 sl55 sl56 sl58 sl71 sl60 sl72 sl61 sl62 sl73 sl74 sl75 sl4 sl5 sl63 sl64 sl76 sl77 sl78 sl79 sl80 tsl47 gsl_IDENTITY : Array (Option Value)} {oc70 kV70 dc70 pm70 cd70 ct70 oc1 kV1 dc1 pm1 cd1 ct1 oc37 kV37 dc37 pm37 cd37 ct37 oc38 kV38 dc38 pm38 cd38 ct38 oc39 kV39 dc39 pm39 cd39 ct39 oc46 kV46 dc46 pm46 cd46 ct46 oc47 kV47 dc47 pm47 cd47 ct47 oc48 kV48 dc48 pm48 cd48 ct48 oc49 kV49 dc49 pm49 cd49 ct49 oc51 kV51 dc51 pm51 cd51 ct51 oc52 kV52 dc52 pm52 cd52 ct52 oc53 kV53 dc53 pm53 cd53 ct53 oc54 kV54 dc54 pm54 cd54 ct54 oc55 kV55 dc55 pm55 cd55 ct55 oc56 kV56 dc56 pm56 cd56 ct56 oc58 kV58 dc58 pm58 cd58 ct58 oc71 kV71 dc71 pm71 cd71 ct71 oc60 kV60 dc60 pm60 cd60 ct60 oc72 kV72 dc72 pm72 cd72 ct72 oc61 kV61 dc61 pm61 cd61 ct61 oc62 kV62 dc62 pm62 cd62 ct62 oc73 kV73 dc73 pm73 cd73 ct73 oc74 kV74 dc74 pm74 cd74 ct74 oc75 kV75 dc75 pm75 cd75 ct75 oc4 kV4 dc4 pm4 cd4 ct4 oc5 kV5 dc5 pm5 cd5 ct5 oc63 kV63 dc63 pm63 cd63 ct63 oc64 kV64 dc64 pm64 cd64 ct64 oc76 kV76 dc76 pm76 cd76 ct76 oc77 kV77 dc77 pm77 cd77 ct77 oc78 kV78 dc78 pm78 cd78 ct78 oc79 kV79 dc79 pm79 cd79 ct79 oc80 kV80 dc80 pm80 cd80 ct80 toc47 : Value} {tt47_0 tt47_1 tn47 gn_IDENTITY gt_IDENTITY_0 gt_IDENTITY_1 gt_IDENTITY_2 gt_IDENTITY_3 gt_IDENTITY_4 gt_IDENTITY_5 : Nat} {rs49_21 rs48_21 rs58_21 : List Value} (X : K.In h) (G : h.Ns mainGlobals mg) (hfa : mg "law" = some (.ref fz))
    (ca0 : PySem.W.nsIn K mainGlobals "ShapeError" = some (some (.ref c0)))
    (ca1 : PySem.W.nsIn K mainGlobals "InvalidInteger" = some (some (.ref c1)))
    (ca2 : PySem.W.nsIn K mainGlobals "InvalidPoint" = some (some (.ref c2)))
    (ca4 : PySem.W.nsIn K mainGlobals "InvalidMap" = some (some (.ref c4)))
    (ca20 : PySem.W.nsIn K mainGlobals "SoundNumbers" = some (some (.ref c20)))
    (ca21 : PySem.W.nsIn K mainGlobals "GridMap" = some (some (.ref c21)))
    (a70 : PySem.W.nsIn K mainGlobals "need_integer" = some (some (.ref f70)))
    (a1 : PySem.W.nsIn K mainGlobals "need_integers" = some (some (.ref f1)))
    (a37 : PySem.W.nsIn K mainGlobals "is_point" = some (some (.ref f37)))
    (a38 : PySem.W.nsIn K mainGlobals "first_wrong_point" = some (some (.ref f38)))
    (a39 : PySem.W.nsIn K mainGlobals "need_point" = some (some (.ref f39)))
    (a71 : PySem.W.nsIn K mainGlobals "need_map" = some (some (.ref f71)))
    (a60 : PySem.W.nsIn K mainGlobals "need_determinant" = some (some (.ref f60)))
    (a72 : PySem.W.nsIn K mainGlobals "made_map" = some (some (.ref f72)))
    (a61 : PySem.W.nsIn K mainGlobals "images_under" = some (some (.ref f61)))
    (a62 : PySem.W.nsIn K mainGlobals "determinant_of" = some (some (.ref f62)))
    (a73 : PySem.W.nsIn K mainGlobals "composed" = some (some (.ref f73)))
    (a74 : PySem.W.nsIn K mainGlobals "inverted" = some (some (.ref f74)))
    (a75 : PySem.W.nsIn K mainGlobals "repeated" = some (some (.ref f75)))
    (a4 : PySem.W.nsIn K mainGlobals "_law_draws" = some (some (.ref f4)))
    (a5 : PySem.W.nsIn K mainGlobals "_law_draw" = some (some (.ref f5)))
    (a63 : PySem.W.nsIn K mainGlobals "_law_product" = some (some (.ref f63)))
    (a64 : PySem.W.nsIn K mainGlobals "_law_numbers" = some (some (.ref f64)))
    (a76 : PySem.W.nsIn K mainGlobals "_law_image" = some (some (.ref f76)))
    (a77 : PySem.W.nsIn K mainGlobals "_law_grid" = some (some (.ref f77)))
    (a78 : PySem.W.nsIn K mainGlobals "_law_rejected" = some (some (.ref f78)))
    (a79 : PySem.W.nsIn K mainGlobals "_law_powers_right" = some (some (.ref f79)))
    (a80 : PySem.W.nsIn K mainGlobals "law" = some (some (.ref f80)))
    (C20 : ClF K c20)
    (C21 : ClF K c21)
    (m46_20 : PySem.W.findIn K (.ref c20) "__init__" = some (some (.ref f46)))
    (n46 : PySem.W.isFn K (.ref f46) = true)
    (mk20 : PySem.W.makesIn K c20 = true)
    (kc20 : PySem.W.keepIn K (.ref c20) = true)
    (m47_21 : PySem.W.findIn K (.ref c21) "__init__" = some (some (.ref f47)))
    (n47 : PySem.W.isFn K (.ref f47) = true)
    (mk21 : PySem.W.makesIn K c21 = true)
    (kc21 : PySem.W.keepIn K (.ref c21) = true)
    (m53_21 : PySem.W.findIn K (.ref c21) "apply" = some (some (.ref f53)))
    (n53 : PySem.W.isFn K (.ref f53) = true)
    (m55_21 : PySem.W.findIn K (.ref c21) "inverse" = some (some (.ref f55)))
    (n55 : PySem.W.isFn K (.ref f55) = true)
    (m56_21 : PySem.W.findIn K (.ref c21) "power" = some (some (.ref f56)))
    (n56 : PySem.W.isFn K (.ref f56) = true)
    (m54_21 : PySem.W.findIn K (.ref c21) "then" = some (some (.ref f54)))
    (n54 : PySem.W.isFn K (.ref f54) = true)
    (pa49_21 : PySem.W.findIn K (.ref c21) "determinant" = some (some (.ref p49_21)))
    (pb49_21 : PySem.W.specialIn K (.ref p49_21) "__get__" = some (some (.builtin "property.__get__")))
    (pc49_21 : PySem.W.takesIn K (.ref p49_21) = some true)
    (pd49_21 : PySem.W.recIn K p49_21 "property" = some (.ref f49 :: rs49_21))
    (pa48_21 : PySem.W.findIn K (.ref c21) "numbers" = some (some (.ref p48_21)))
    (pb48_21 : PySem.W.specialIn K (.ref p48_21) "__get__" = some (some (.builtin "property.__get__")))
    (pc48_21 : PySem.W.takesIn K (.ref p48_21) = some true)
    (pd48_21 : PySem.W.recIn K p48_21 "property" = some (.ref f48 :: rs48_21))
    (m51_21 : PySem.W.findIn K (.ref c21) "__eq__" = some (some (.ref f51)))
    (m52_21 : PySem.W.findIn K (.ref c21) "__repr__" = some (some (.ref f52)))
    (n51 : PySem.W.isFn K (.ref f51) = true)
    (ne21 : PySem.W.findIn K (.ref c21) "__ne__" = some (some (.builtin "object.__ne__")))
    (n52 : PySem.W.isFn K (.ref f52) = true)
    (s20_21 : PySem.W.subIn K (.ref c20) (.ref c21) = some false)
    (s21_20 : PySem.W.subIn K (.ref c21) (.ref c20) = some false)
    (cm58 : PySem.W.findCls K (.ref c21) (.type "type") "identity" = some (.get (.builtin "classmethod.__get__") (.ref p58_21) .none (.ref c21)))
    (cn58 : PySem.W.recIn K p58_21 "classmethod" = some (.ref f58 :: rs58_21))
    (co58 : PySem.W.fnIn K f58 = true)
    (na20_7 : PySem.W.findIn K (.ref c20) "sound" = some none)
    (na21_7 : PySem.W.findIn K (.ref c21) "sound" = some none)
    (na20_8 : PySem.W.findIn K (.ref c20) "six" = some none)
    (na21_8 : PySem.W.findIn K (.ref c21) "six" = some none)
    (l70 : K.lookup f70 = some ⟨oc70, od70, .func (PySem.W.fnOf "need_integer" "need_integer" (defArgs (top 7)) (defBody (top 7)) (defScope (top 7)) .none kV70 dc70 pm70 an70 cd70 ct70), sl70⟩)
    (q70 : PySem.W.codeIn K cd70 "need_integer" = true)
    (k70 : PySem.W.keepIn K (.ref f70) = true)
    (l1 : K.lookup f1 = some ⟨oc1, od1, .func (PySem.W.fnOf "need_integers" "need_integers" (defArgs (top 8)) (defBody (top 8)) (defScope (top 8)) .none kV1 dc1 pm1 an1 cd1 ct1), sl1⟩)
    (q1 : PySem.W.codeIn K cd1 "need_integers" = true)
    (k1 : PySem.W.keepIn K (.ref f1) = true)
    (l37 : K.lookup f37 = some ⟨oc37, od37, .func (PySem.W.fnOf "is_point" "is_point" (defArgs (top 10)) (defBody (top 10)) (defScope (top 10)) .none kV37 dc37 pm37 an37 cd37 ct37), sl37⟩)
    (q37 : PySem.W.codeIn K cd37 "is_point" = true)
    (k37 : PySem.W.keepIn K (.ref f37) = true)
    (l38 : K.lookup f38 = some ⟨oc38, od38, .func (PySem.W.fnOf "first_wrong_point" "first_wrong_point" (defArgs (top 11)) (defBody (top 11)) (defScope (top 11)) .none kV38 dc38 pm38 an38 cd38 ct38), sl38⟩)
    (q38 : PySem.W.codeIn K cd38 "first_wrong_point" = true)
    (k38 : PySem.W.keepIn K (.ref f38) = true)
    (l39 : K.lookup f39 = some ⟨oc39, od39, .func (PySem.W.fnOf "need_point" "need_point" (defArgs (top 12)) (defBody (top 12)) (defScope (top 12)) .none kV39 dc39 pm39 an39 cd39 ct39), sl39⟩)
    (q39 : PySem.W.codeIn K cd39 "need_point" = true)
    (k39 : PySem.W.keepIn K (.ref f39) = true)
    (l46 : K.lookup f46 = some ⟨oc46, od46, .func (PySem.W.fnOf "__init__" "SoundNumbers.__init__" (defArgs (mem (top 15) 0)) (defBody (mem (top 15) 0)) (defScope (mem (top 15) 0)) .none kV46 dc46 pm46 an46 cd46 ct46), sl46⟩)
    (q46 : PySem.W.codeIn K cd46 "SoundNumbers.__init__" = true)
    (k46 : PySem.W.keepIn K (.ref f46) = true)
    (l47 : K.lookup f47 = some ⟨oc47, od47, .func (PySem.W.fnOf "__init__" "GridMap.__init__" (defArgs (mem (top 16) 1)) (defBody (mem (top 16) 1)) (defScope (mem (top 16) 1)) (.ref ta47) kV47 dc47 pm47 an47 cd47 ct47), sl47⟩)
    (q47 : PySem.W.codeIn K cd47 "GridMap.__init__" = true)
    (k47 : PySem.W.keepIn K (.ref f47) = true)
    (lt47 : K.lookup ta47 = some ⟨toc47, tod47, .seq ([.int (0) tt47_0, .int (0) tt47_1] : List Value).toArray tn47, tsl47⟩)
    (l48 : K.lookup f48 = some ⟨oc48, od48, .func (PySem.W.fnOf "numbers" "GridMap.numbers" (defArgs (mem (top 16) 2)) (defBody (mem (top 16) 2)) (defScope (mem (top 16) 2)) .none kV48 dc48 pm48 an48 cd48 ct48), sl48⟩)
    (q48 : PySem.W.codeIn K cd48 "GridMap.numbers" = true)
    (k48 : PySem.W.keepIn K (.ref f48) = true)
    (l49 : K.lookup f49 = some ⟨oc49, od49, .func (PySem.W.fnOf "determinant" "GridMap.determinant" (defArgs (mem (top 16) 3)) (defBody (mem (top 16) 3)) (defScope (mem (top 16) 3)) .none kV49 dc49 pm49 an49 cd49 ct49), sl49⟩)
    (q49 : PySem.W.codeIn K cd49 "GridMap.determinant" = true)
    (k49 : PySem.W.keepIn K (.ref f49) = true)
    (l51 : K.lookup f51 = some ⟨oc51, od51, .func (PySem.W.fnOf "__eq__" "GridMap.__eq__" (defArgs (mem (top 16) 5)) (defBody (mem (top 16) 5)) (defScope (mem (top 16) 5)) .none kV51 dc51 pm51 an51 cd51 ct51), sl51⟩)
    (q51 : PySem.W.codeIn K cd51 "GridMap.__eq__" = true)
    (k51 : PySem.W.keepIn K (.ref f51) = true)
    (l52 : K.lookup f52 = some ⟨oc52, od52, .func (PySem.W.fnOf "__repr__" "GridMap.__repr__" (defArgs (mem (top 16) 6)) (defBody (mem (top 16) 6)) (defScope (mem (top 16) 6)) .none kV52 dc52 pm52 an52 cd52 ct52), sl52⟩)
    (q52 : PySem.W.codeIn K cd52 "GridMap.__repr__" = true)
    (k52 : PySem.W.keepIn K (.ref f52) = true)
    (l53 : K.lookup f53 = some ⟨oc53, od53, .func (PySem.W.fnOf "apply" "GridMap.apply" (defArgs (mem (top 16) 7)) (defBody (mem (top 16) 7)) (defScope (mem (top 16) 7)) .none kV53 dc53 pm53 an53 cd53 ct53), sl53⟩)
    (q53 : PySem.W.codeIn K cd53 "GridMap.apply" = true)
    (k53 : PySem.W.keepIn K (.ref f53) = true)
    (l54 : K.lookup f54 = some ⟨oc54, od54, .func (PySem.W.fnOf "then" "GridMap.then" (defArgs (mem (top 16) 8)) (defBody (mem (top 16) 8)) (defScope (mem (top 16) 8)) .none kV54 dc54 pm54 an54 cd54 ct54), sl54⟩)
    (q54 : PySem.W.codeIn K cd54 "GridMap.then" = true)
    (k54 : PySem.W.keepIn K (.ref f54) = true)
    (l55 : K.lookup f55 = some ⟨oc55, od55, .func (PySem.W.fnOf "inverse" "GridMap.inverse" (defArgs (mem (top 16) 9)) (defBody (mem (top 16) 9)) (defScope (mem (top 16) 9)) .none kV55 dc55 pm55 an55 cd55 ct55), sl55⟩)
    (q55 : PySem.W.codeIn K cd55 "GridMap.inverse" = true)
    (k55 : PySem.W.keepIn K (.ref f55) = true)
    (l56 : K.lookup f56 = some ⟨oc56, od56, .func (PySem.W.fnOf "power" "GridMap.power" (defArgs (mem (top 16) 10)) (defBody (mem (top 16) 10)) (defScope (mem (top 16) 10)) .none kV56 dc56 pm56 an56 cd56 ct56), sl56⟩)
    (q56 : PySem.W.codeIn K cd56 "GridMap.power" = true)
    (k56 : PySem.W.keepIn K (.ref f56) = true)
    (l58 : K.lookup f58 = some ⟨oc58, od58, .func (PySem.W.fnOf "identity" "GridMap.identity" (defArgs (mem (top 16) 12)) (defBody (mem (top 16) 12)) (defScope (mem (top 16) 12)) .none kV58 dc58 pm58 an58 cd58 ct58), sl58⟩)
    (q58 : PySem.W.codeIn K cd58 "GridMap.identity" = true)
    (k58 : PySem.W.keepIn K (.ref f58) = true)
    (l71 : K.lookup f71 = some ⟨oc71, od71, .func (PySem.W.fnOf "need_map" "need_map" (defArgs (top 17)) (defBody (top 17)) (defScope (top 17)) .none kV71 dc71 pm71 an71 cd71 ct71), sl71⟩)
    (q71 : PySem.W.codeIn K cd71 "need_map" = true)
    (k71 : PySem.W.keepIn K (.ref f71) = true)
    (l60 : K.lookup f60 = some ⟨oc60, od60, .func (PySem.W.fnOf "need_determinant" "need_determinant" (defArgs (top 18)) (defBody (top 18)) (defScope (top 18)) .none kV60 dc60 pm60 an60 cd60 ct60), sl60⟩)
    (q60 : PySem.W.codeIn K cd60 "need_determinant" = true)
    (k60 : PySem.W.keepIn K (.ref f60) = true)
    (l72 : K.lookup f72 = some ⟨oc72, od72, .func (PySem.W.fnOf "made_map" "made_map" (defArgs (top 19)) (defBody (top 19)) (defScope (top 19)) .none kV72 dc72 pm72 an72 cd72 ct72), sl72⟩)
    (q72 : PySem.W.codeIn K cd72 "made_map" = true)
    (k72 : PySem.W.keepIn K (.ref f72) = true)
    (l61 : K.lookup f61 = some ⟨oc61, od61, .func (PySem.W.fnOf "images_under" "images_under" (defArgs (top 20)) (defBody (top 20)) (defScope (top 20)) .none kV61 dc61 pm61 an61 cd61 ct61), sl61⟩)
    (q61 : PySem.W.codeIn K cd61 "images_under" = true)
    (k61 : PySem.W.keepIn K (.ref f61) = true)
    (l62 : K.lookup f62 = some ⟨oc62, od62, .func (PySem.W.fnOf "determinant_of" "determinant_of" (defArgs (top 21)) (defBody (top 21)) (defScope (top 21)) .none kV62 dc62 pm62 an62 cd62 ct62), sl62⟩)
    (q62 : PySem.W.codeIn K cd62 "determinant_of" = true)
    (k62 : PySem.W.keepIn K (.ref f62) = true)
    (l73 : K.lookup f73 = some ⟨oc73, od73, .func (PySem.W.fnOf "composed" "composed" (defArgs (top 22)) (defBody (top 22)) (defScope (top 22)) .none kV73 dc73 pm73 an73 cd73 ct73), sl73⟩)
    (q73 : PySem.W.codeIn K cd73 "composed" = true)
    (k73 : PySem.W.keepIn K (.ref f73) = true)
    (l74 : K.lookup f74 = some ⟨oc74, od74, .func (PySem.W.fnOf "inverted" "inverted" (defArgs (top 23)) (defBody (top 23)) (defScope (top 23)) .none kV74 dc74 pm74 an74 cd74 ct74), sl74⟩)
    (q74 : PySem.W.codeIn K cd74 "inverted" = true)
    (k74 : PySem.W.keepIn K (.ref f74) = true)
    (l75 : K.lookup f75 = some ⟨oc75, od75, .func (PySem.W.fnOf "repeated" "repeated" (defArgs (top 24)) (defBody (top 24)) (defScope (top 24)) .none kV75 dc75 pm75 an75 cd75 ct75), sl75⟩)
    (q75 : PySem.W.codeIn K cd75 "repeated" = true)
    (k75 : PySem.W.keepIn K (.ref f75) = true)
    (l4 : K.lookup f4 = some ⟨oc4, od4, .func (PySem.W.fnOf "_law_draws" "_law_draws" (defArgs (top 26)) (defBody (top 26)) (defScope (top 26)) .none kV4 dc4 pm4 an4 cd4 ct4), sl4⟩)
    (q4 : PySem.W.codeIn K cd4 "_law_draws" = true)
    (k4 : PySem.W.keepIn K (.ref f4) = true)
    (l5 : K.lookup f5 = some ⟨oc5, od5, .func (PySem.W.fnOf "_law_draw" "_law_draw" (defArgs (top 27)) (defBody (top 27)) (defScope (top 27)) .none kV5 dc5 pm5 an5 cd5 ct5), sl5⟩)
    (q5 : PySem.W.codeIn K cd5 "_law_draw" = true)
    (k5 : PySem.W.keepIn K (.ref f5) = true)
    (l63 : K.lookup f63 = some ⟨oc63, od63, .func (PySem.W.fnOf "_law_product" "_law_product" (defArgs (top 28)) (defBody (top 28)) (defScope (top 28)) .none kV63 dc63 pm63 an63 cd63 ct63), sl63⟩)
    (q63 : PySem.W.codeIn K cd63 "_law_product" = true)
    (k63 : PySem.W.keepIn K (.ref f63) = true)
    (l64 : K.lookup f64 = some ⟨oc64, od64, .func (PySem.W.fnOf "_law_numbers" "_law_numbers" (defArgs (top 29)) (defBody (top 29)) (defScope (top 29)) .none kV64 dc64 pm64 an64 cd64 ct64), sl64⟩)
    (q64 : PySem.W.codeIn K cd64 "_law_numbers" = true)
    (k64 : PySem.W.keepIn K (.ref f64) = true)
    (l76 : K.lookup f76 = some ⟨oc76, od76, .func (PySem.W.fnOf "_law_image" "_law_image" (defArgs (top 30)) (defBody (top 30)) (defScope (top 30)) .none kV76 dc76 pm76 an76 cd76 ct76), sl76⟩)
    (q76 : PySem.W.codeIn K cd76 "_law_image" = true)
    (k76 : PySem.W.keepIn K (.ref f76) = true)
    (l77 : K.lookup f77 = some ⟨oc77, od77, .func (PySem.W.fnOf "_law_grid" "_law_grid" (defArgs (top 31)) (defBody (top 31)) (defScope (top 31)) .none kV77 dc77 pm77 an77 cd77 ct77), sl77⟩)
    (q77 : PySem.W.codeIn K cd77 "_law_grid" = true)
    (k77 : PySem.W.keepIn K (.ref f77) = true)
    (l78 : K.lookup f78 = some ⟨oc78, od78, .func (PySem.W.fnOf "_law_rejected" "_law_rejected" (defArgs (top 32)) (defBody (top 32)) (defScope (top 32)) .none kV78 dc78 pm78 an78 cd78 ct78), sl78⟩)
    (q78 : PySem.W.codeIn K cd78 "_law_rejected" = true)
    (k78 : PySem.W.keepIn K (.ref f78) = true)
    (l79 : K.lookup f79 = some ⟨oc79, od79, .func (PySem.W.fnOf "_law_powers_right" "_law_powers_right" (defArgs (top 33)) (defBody (top 33)) (defScope (top 33)) .none kV79 dc79 pm79 an79 cd79 ct79), sl79⟩)
    (q79 : PySem.W.codeIn K cd79 "_law_powers_right" = true)
    (k79 : PySem.W.keepIn K (.ref f79) = true)
    (l80 : K.lookup f80 = some ⟨oc80, od80, .func (PySem.W.fnOf "law" "law" (defArgs (top 34)) (defBody (top 34)) (defScope (top 34)) .none kV80 dc80 pm80 an80 cd80 ct80), sl80⟩)
    (q80 : PySem.W.codeIn K cd80 "law" = true)
    (k80 : PySem.W.keepIn K (.ref f80) = true)
    (cr21 : PySem.W.readsIn K c21 (.type "type") = true)
    (cg21 : PySem.W.specialIn K (.ref c21) "__getattribute__" = some (some (.builtin "type.__getattribute__")))
    (gg_IDENTITY : PySem.W.nsIn K mainGlobals "IDENTITY" = some (some (.ref ga_IDENTITY)))
    (gl_IDENTITY : K.lookup ga_IDENTITY = some ⟨.type "tuple", god_IDENTITY, .seq ([.int (1) gt_IDENTITY_0, .int (0) gt_IDENTITY_1, .int (0) gt_IDENTITY_2, .int (1) gt_IDENTITY_3, .int (0) gt_IDENTITY_4, .int (0) gt_IDENTITY_5] : List Value).toArray gn_IDENTITY, gsl_IDENTITY⟩)
    (z0 : PySem.W.nsIn K mainGlobals "len" = some none)
    (z1 : PySem.W.nsIn K mainGlobals "abs" = some none)
    (z2 : PySem.W.nsIn K mainGlobals "max" = some none)
    (z3 : PySem.W.nsIn K mainGlobals "min" = some none)
    (z4 : PySem.W.nsIn K mainGlobals "int" = some none)
    (z5 : PySem.W.nsIn K mainGlobals "range" = some none)
    (z6 : PySem.W.nsIn K mainGlobals "isinstance" = some none)
    (z7 : PySem.W.nsIn K mainGlobals "bool" = some none)
    (z8 : PySem.W.nsIn K mainGlobals "str" = some none)
    (z9 : PySem.W.nsIn K mainGlobals "tuple" = some none)
    (z10 : PySem.W.nsIn K mainGlobals "list" = some none)
    (z11 : PySem.W.nsIn K mainGlobals "dict" = some none)
    (z12 : PySem.W.nsIn K mainGlobals "sum" = some none)
    (z13 : PySem.W.nsIn K mainGlobals "enumerate" = some none)
    (z14 : PySem.W.nsIn K mainGlobals "zip" = some none)
    (z15 : PySem.W.nsIn K mainGlobals "repr" = some none)
    (z16 : PySem.W.nsIn K mainGlobals "sorted" = some none)
    (z17 : PySem.W.nsIn K mainGlobals "set" = some none)
    (z18 : PySem.W.nsIn K mainGlobals "any" = some none)
    (z19 : PySem.W.nsIn K mainGlobals "all" = some none)
    (z20 : PySem.W.nsIn K mainGlobals "divmod" = some none)
    (xe1 : PySem.W.excIn K c1 [.type "ValueError", .type "Exception", .type "BaseException", .type "object"] "ValueError.__new__" = true)
    (xk1 : PySem.W.keepIn K (.ref c1) = true)
    (xe2 : PySem.W.excIn K c2 [.type "ValueError", .type "Exception", .type "BaseException", .type "object"] "ValueError.__new__" = true)
    (xk2 : PySem.W.keepIn K (.ref c2) = true)
    (xe4 : PySem.W.excIn K c4 [.type "ValueError", .type "Exception", .type "BaseException", .type "object"] "ValueError.__new__" = true)
    (xk4 : PySem.W.keepIn K (.ref c4) = true)
    (xs1 : PySem.W.subIn K (.ref c1) (.type "BaseException") = some true)
    (xt1 : PySem.W.typeIn K (.ref c1) = some (.type "type"))
    (xi1 : PySem.W.isClsIn K c1 = true)
    (xs2 : PySem.W.subIn K (.ref c2) (.type "BaseException") = some true)
    (xt2 : PySem.W.typeIn K (.ref c2) = some (.type "type"))
    (xi2 : PySem.W.isClsIn K c2 = true)
    (xs4 : PySem.W.subIn K (.ref c4) (.type "BaseException") = some true)
    (xt4 : PySem.W.typeIn K (.ref c4) = some (.type "type"))
    (xi4 : PySem.W.isClsIn K c4 = true)
    (xm1_1 : PySem.W.subIn K (.ref c1) (.ref c1) = some true)
    (xm1_2 : PySem.W.subIn K (.ref c2) (.ref c1) = some false)
    (xm1_4 : PySem.W.subIn K (.ref c4) (.ref c1) = some false)
    (xm4_1 : PySem.W.subIn K (.ref c1) (.ref c4) = some false)
    (xm4_2 : PySem.W.subIn K (.ref c2) (.ref c4) = some false)
    (xm4_4 : PySem.W.subIn K (.ref c4) (.ref c4) = some true)
    : ∃ fd : FuncData, (∀ (s : Shared) (v : Value), BindsTo s fd ⟨[v], []⟩ [("_law_script", v)]) ∧ ∀ base : Heap, K.In base → base.Ns mainGlobals mg → ∃ S : Sta, S.K = K ∧ GoF l.prog w K mg base (L2.CX l.prog w) 42 fz fd ["_law_script"] (fun vs H Q E => vs.length = 1 ∧ spB S (callD T 20) F80 vs H Q E) := by
  have e := (PySem.W.mg_of X G a80).symm.trans hfa
  cases e

  refine ⟨(PySem.W.fnOf "law" "law" (defArgs (top 34)) (defBody (top 34)) (defScope (top 34)) .none kV80 dc80 pm80 an80 cd80 ct80), fun s v => .of_eq rfl, fun base _ _ => ⟨(⟨K, fun i => [1, 2, 4].contains i, fun i => [20, 21].contains i, lk 0 [(70, f70), (1, f1), (37, f37), (38, f38), (39, f39), (46, f46), (47, f47), (48, f48), (49, f49), (51, f51), (52, f52), (53, f53), (54, f54), (55, f55), (56, f56), (58, f58), (71, f71), (60, f60), (72, f72), (61, f61), (62, f62), (73, f73), (74, f74), (75, f75), (4, f4), (5, f5), (63, f63), (64, f64), (76, f76), (77, f77), (78, f78), (79, f79), (80, f80)], lk (PySem.W.fnOf "law" "law" (defArgs (top 34)) (defBody (top 34)) (defScope (top 34)) .none kV80 dc80 pm80 an80 cd80 ct80) [(47, (PySem.W.fnOf "__init__" "GridMap.__init__" (defArgs (mem (top 16) 1)) (defBody (mem (top 16) 1)) (defScope (mem (top 16) 1)) (.ref ta47) kV47 dc47 pm47 an47 cd47 ct47))], fun i => ([47] : List Nat).contains i, lk [] [(47, ["self", "a", "b", "c", "d", "e", "f"])], fun i => fidL.contains i, lk 0 [(0, c0), (1, c1), (2, c2), (4, c4), (20, c20), (21, c21)], cfT, fnmT⟩ : Sta), rfl, ?_⟩⟩
  have TF : TabOk (⟨K, fun i => [1, 2, 4].contains i, fun i => [20, 21].contains i, lk 0 [(70, f70), (1, f1), (37, f37), (38, f38), (39, f39), (46, f46), (47, f47), (48, f48), (49, f49), (51, f51), (52, f52), (53, f53), (54, f54), (55, f55), (56, f56), (58, f58), (71, f71), (60, f60), (72, f72), (61, f61), (62, f62), (73, f73), (74, f74), (75, f75), (4, f4), (5, f5), (63, f63), (64, f64), (76, f76), (77, f77), (78, f78), (79, f79), (80, f80)], lk (PySem.W.fnOf "law" "law" (defArgs (top 34)) (defBody (top 34)) (defScope (top 34)) .none kV80 dc80 pm80 an80 cd80 ct80) [(47, (PySem.W.fnOf "__init__" "GridMap.__init__" (defArgs (mem (top 16) 1)) (defBody (mem (top 16) 1)) (defScope (mem (top 16) 1)) (.ref ta47) kV47 dc47 pm47 an47 cd47 ct47))], fun i => ([47] : List Nat).contains i, lk [] [(47, ["self", "a", "b", "c", "d", "e", "f"])], fun i => fidL.contains i, lk 0 [(0, c0), (1, c1), (2, c2), (4, c4), (20, c20), (21, c21)], cfT, fnmT⟩ : Sta) mg tb := {
    base := ⟨inj_of hInj, ihs hCf, ihs (ac (C20.ins) (ac (C21.ins) an))⟩
    blt := (ac (PySem.W.mg_none_of X G z0) (ac (PySem.W.mg_none_of X G z1) (ac (PySem.W.mg_none_of X G z2) (ac (PySem.W.mg_none_of X G z3) (ac (PySem.W.mg_none_of X G z4) (ac (PySem.W.mg_none_of X G z5) (ac (PySem.W.mg_none_of X G z6) (ac (PySem.W.mg_none_of X G z7) (ac (PySem.W.mg_none_of X G z8) (ac (PySem.W.mg_none_of X G z9) (ac (PySem.W.mg_none_of X G z10) (ac (PySem.W.mg_none_of X G z11) (ac (PySem.W.mg_none_of X G z12) (ac (PySem.W.mg_none_of X G z13) (ac (PySem.W.mg_none_of X G z14) (ac (PySem.W.mg_none_of X G z15) (ac (PySem.W.mg_none_of X G z16) (ac (PySem.W.mg_none_of X G z17) (ac (PySem.W.mg_none_of X G z18) (ac (PySem.W.mg_none_of X G z19) (ac (PySem.W.mg_none_of X G z20) an)))))))))))))))))))))
    fns := lku (ac ⟨PySem.W.mg_of X G a70, k70⟩ (ac ⟨PySem.W.mg_of X G a1, k1⟩ (ac ⟨PySem.W.mg_of X G a37, k37⟩ (ac ⟨PySem.W.mg_of X G a38, k38⟩ (ac ⟨PySem.W.mg_of X G a39, k39⟩ (ac ⟨PySem.W.mg_of X G a71, k71⟩ (ac ⟨PySem.W.mg_of X G a60, k60⟩ (ac ⟨PySem.W.mg_of X G a72, k72⟩ (ac ⟨PySem.W.mg_of X G a61, k61⟩ (ac ⟨PySem.W.mg_of X G a62, k62⟩ (ac ⟨PySem.W.mg_of X G a73, k73⟩ (ac ⟨PySem.W.mg_of X G a74, k74⟩ (ac ⟨PySem.W.mg_of X G a75, k75⟩ (ac ⟨PySem.W.mg_of X G a4, k4⟩ (ac ⟨PySem.W.mg_of X G a5, k5⟩ (ac ⟨PySem.W.mg_of X G a63, k63⟩ (ac ⟨PySem.W.mg_of X G a64, k64⟩ (ac ⟨PySem.W.mg_of X G a76, k76⟩ (ac ⟨PySem.W.mg_of X G a77, k77⟩ (ac ⟨PySem.W.mg_of X G a78, k78⟩ (ac ⟨PySem.W.mg_of X G a79, k79⟩ (ac ⟨PySem.W.mg_of X G a80, k80⟩ an))))))))))))))))))))))
    dfl := lku (ac ⟨dfl_of (by decide) rfl rfl (.cons ⟨_, rfl⟩ .nil) (bind_dfl (d := d47) 6 1 lt47 rfl rfl (fun us hl => match us, hl with | [_, _, _, _, _, _], _ => ⟨_, rfl, rfl⟩)), rfl⟩ (ac ⟨dfl_of (by decide) rfl rfl (.cons ⟨_, rfl⟩ (.cons ⟨_, rfl⟩ .nil)) (bind_dfl (d := d47) 5 0 lt47 rfl rfl (fun us hl => match us, hl with | [_, _, _, _, _], _ => ⟨_, rfl, rfl⟩)), rfl⟩ an))
    xs := lku (ac ⟨rfl, PySem.W.mg_of X G ca1, ⟨_, _, _, _, PySem.F.excBase_ValueError, xe1⟩, xk1, xs1, xt1⟩ (ac ⟨rfl, PySem.W.mg_of X G ca2, ⟨_, _, _, _, PySem.F.excBase_ValueError, xe2⟩, xk2, xs2, xt2⟩ (ac ⟨rfl, PySem.W.mg_of X G ca4, ⟨_, _, _, _, PySem.F.excBase_ValueError, xe4⟩, xk4, xs4, xt4⟩ an)))
    exs := lku (ac ⟨_, PySem.W.mg_of X G ca1, ihs (ac (exm_is xs1 xi1 xt1 xm1_1) (ac (exm_is xs1 xi1 xt1 xm1_2) (ac (exm_is xs1 xi1 xt1 xm1_4) an)))⟩ (ac ⟨_, PySem.W.mg_of X G ca4, ihs (ac (exm_is xs4 xi4 xt4 xm4_1) (ac (exm_is xs4 xi4 xt4 xm4_2) (ac (exm_is xs4 xi4 xt4 xm4_4) an)))⟩ an))
    cls := fun x d cs h => lku (l := tb.cls) (P := fun (x : Str) (p : Nat × List Nat) => mg x = some (.ref (lk 0 [(0, c0), (1, c1), (2, c2), (4, c4), (20, c20), (21, c21)] p.1)) ∧ OwnTy (⟨K, fun i => [1, 2, 4].contains i, fun i => [20, 21].contains i, lk 0 [(70, f70), (1, f1), (37, f37), (38, f38), (39, f39), (46, f46), (47, f47), (48, f48), (49, f49), (51, f51), (52, f52), (53, f53), (54, f54), (55, f55), (56, f56), (58, f58), (71, f71), (60, f60), (72, f72), (61, f61), (62, f62), (73, f73), (74, f74), (75, f75), (4, f4), (5, f5), (63, f63), (64, f64), (76, f76), (77, f77), (78, f78), (79, f79), (80, f80)], lk (PySem.W.fnOf "law" "law" (defArgs (top 34)) (defBody (top 34)) (defScope (top 34)) .none kV80 dc80 pm80 an80 cd80 ct80) [(47, (PySem.W.fnOf "__init__" "GridMap.__init__" (defArgs (mem (top 16) 1)) (defBody (mem (top 16) 1)) (defScope (mem (top 16) 1)) (.ref ta47) kV47 dc47 pm47 an47 cd47 ct47))], fun i => ([47] : List Nat).contains i, lk [] [(47, ["self", "a", "b", "c", "d", "e", "f"])], fun i => fidL.contains i, lk 0 [(0, c0), (1, c1), (2, c2), (4, c4), (20, c20), (21, c21)], cfT, fnmT⟩ : Sta) p.1 p.2) (ac ⟨PySem.W.mg_of X G ca20, C20.own (ihs (ac (C20.se) (ac s21_20 an)))⟩ (ac ⟨PySem.W.mg_of X G ca21, C21.own (ihs (ac s20_21 (ac (C21.se) an)))⟩ an)) x (d, cs) h
    news := fun x c f fl h => lku (l := tb.news) (P := fun (x : Str) (p : Nat × Nat × List Nat) => [20, 21].contains p.1 = true ∧ mg x = some (.ref (lk 0 [(0, c0), (1, c1), (2, c2), (4, c4), (20, c20), (21, c21)] p.1)) ∧ Mk K (lk 0 [(0, c0), (1, c1), (2, c2), (4, c4), (20, c20), (21, c21)] p.1) (lk 0 [(70, f70), (1, f1), (37, f37), (38, f38), (39, f39), (46, f46), (47, f47), (48, f48), (49, f49), (51, f51), (52, f52), (53, f53), (54, f54), (55, f55), (56, f56), (58, f58), (71, f71), (60, f60), (72, f72), (61, f61), (62, f62), (73, f73), (74, f74), (75, f75), (4, f4), (5, f5), (63, f63), (64, f64), (76, f76), (77, f77), (78, f78), (79, f79), (80, f80)] p.2.1) ∧ p.2.2 = cfT p.1) (ac ⟨rfl, PySem.W.mg_of X G ca20, ⟨mk20, m46_20, n46, kc20⟩, rfl⟩ (ac ⟨rfl, PySem.W.mg_of X G ca21, ⟨mk21, m47_21, n47, kc21⟩, rfl⟩ an)) x (c, f, fl) h
    flds := fun x f cs h => lku (l := tb.flds) (P := fun (x : Str) (p : Nat × List (Nat × Nat)) => FldF (⟨K, fun i => [1, 2, 4].contains i, fun i => [20, 21].contains i, lk 0 [(70, f70), (1, f1), (37, f37), (38, f38), (39, f39), (46, f46), (47, f47), (48, f48), (49, f49), (51, f51), (52, f52), (53, f53), (54, f54), (55, f55), (56, f56), (58, f58), (71, f71), (60, f60), (72, f72), (61, f61), (62, f62), (73, f73), (74, f74), (75, f75), (4, f4), (5, f5), (63, f63), (64, f64), (76, f76), (77, f77), (78, f78), (79, f79), (80, f80)], lk (PySem.W.fnOf "law" "law" (defArgs (top 34)) (defBody (top 34)) (defScope (top 34)) .none kV80 dc80 pm80 an80 cd80 ct80) [(47, (PySem.W.fnOf "__init__" "GridMap.__init__" (defArgs (mem (top 16) 1)) (defBody (mem (top 16) 1)) (defScope (mem (top 16) 1)) (.ref ta47) kV47 dc47 pm47 an47 cd47 ct47))], fun i => ([47] : List Nat).contains i, lk [] [(47, ["self", "a", "b", "c", "d", "e", "f"])], fun i => fidL.contains i, lk 0 [(0, c0), (1, c1), (2, c2), (4, c4), (20, c20), (21, c21)], cfT, fnmT⟩ : Sta) x p.1 p.2 ∧ ∀ c, [20, 21].contains c = true → NoAttr K (lk 0 [(0, c0), (1, c1), (2, c2), (4, c4), (20, c20), (21, c21)] c) x) (ac ⟨⟨rfl, rfl, lku (ac (yes ⟨na21_8, fun vs hl => zip_at (by decide +kernel : ((cfT 21).map fnmT).findIdx? (· == ("six" : Str)) = some 0) hl⟩) an)⟩, ihs (ac na20_8 (ac na21_8 an))⟩ (ac ⟨⟨rfl, rfl, lku (ac (yes ⟨na20_7, fun vs hl => zip_at (by decide +kernel : ((cfT 20).map fnmT).findIdx? (· == ("sound" : Str)) = some 0) hl⟩) an)⟩, ihs (ac na20_7 (ac na21_7 an))⟩ an)) x (f, cs) h
    props := lku (ac (lku (ac (yes ⟨p48_21, ⟨pa48_21, pb48_21, pc48_21, ⟨_, pd48_21⟩⟩⟩) an)) an)
    mths := lku (ac ⟨ihs (by decide +kernel : ∀ f ∈ fidL, fnmT f ≠ ("apply" : Str)), lku (ac (yes ⟨m53_21, n53, k53⟩) an)⟩ (ac ⟨ihs (by decide +kernel : ∀ f ∈ fidL, fnmT f ≠ ("inverse" : Str)), lku (ac (yes ⟨m55_21, n55, k55⟩) an)⟩ (ac ⟨ihs (by decide +kernel : ∀ f ∈ fidL, fnmT f ≠ ("power" : Str)), lku (ac (yes ⟨m56_21, n56, k56⟩) an)⟩ (ac ⟨ihs (by decide +kernel : ∀ f ∈ fidL, fnmT f ≠ ("then" : Str)), lku (ac (yes ⟨m54_21, n54, k54⟩) an)⟩ an))))
    cons := fun x f d h => lku (l := tb.cons) (P := fun (p : Str × Str) (d : PyI.D) => isC d = true ∧ ∃ Ca mc u, mg p.1 = some (.ref Ca) ∧ ClX.CRead K Ca mc ∧ ClX.CVal K Ca mc p.2 (toV d) u) an (x, f) d h
    eqs := ⟨lku (ac (yes ⟨m51_21, n51, ne21, C21.u4⟩) (ac (no rfl) (ac (no rfl) (ac (no rfl) an)))), fun c d hc hd => ihs (P := fun c => ∀ d, [20, 21].contains d = true → (c, d) ∉ tb.ups → (lk 0 [(0, c0), (1, c1), (2, c2), (4, c4), (20, c20), (21, c21)] d = lk 0 [(0, c0), (1, c1), (2, c2), (4, c4), (20, c20), (21, c21)] c ∨ PySem.W.subIn K (.ref (lk 0 [(0, c0), (1, c1), (2, c2), (4, c4), (20, c20), (21, c21)] d)) (.ref (lk 0 [(0, c0), (1, c1), (2, c2), (4, c4), (20, c20), (21, c21)] c)) = some false)) (ac (ihs (P := fun d => (_, d) ∉ _ → _) (ac (fun _ => .inl rfl) (ac (fun _ => .inr s21_20) an))) (ac (ihs (P := fun d => (_, d) ∉ _ → _) (ac (fun _ => .inr s20_21) (ac (fun _ => .inl rfl) an))) an)) c hc d hd, fun c d hc hd h => absurd h (ihs (P := fun c => ∀ d, [20, 21].contains d = true → (c, d) ∉ tb.ups) (fun c hc => ihs (P := fun d => (c, d) ∉ tb.ups) (by revert c; decide +kernel)) c hc d hd)⟩
    reprs := lku (ac (yes ⟨m52_21, n52⟩) (ac (no rfl) (ac (no rfl) an)))
    clsv := fun x c f fl h => lku (l := tb.clsv) (P := fun (x : Str) (p : Nat × Nat × List Nat) => [20, 21].contains p.1 = true ∧ Mk K (lk 0 [(0, c0), (1, c1), (2, c2), (4, c4), (20, c20), (21, c21)] p.1) (lk 0 [(70, f70), (1, f1), (37, f37), (38, f38), (39, f39), (46, f46), (47, f47), (48, f48), (49, f49), (51, f51), (52, f52), (53, f53), (54, f54), (55, f55), (56, f56), (58, f58), (71, f71), (60, f60), (72, f72), (61, f61), (62, f62), (73, f73), (74, f74), (75, f75), (4, f4), (5, f5), (63, f63), (64, f64), (76, f76), (77, f77), (78, f78), (79, f79), (80, f80)] p.2.1) ∧ p.2.2 = cfT p.1) (ac ⟨rfl, ⟨mk21, m47_21, n47, kc21⟩, rfl⟩ an) x (c, f, fl) h
    cmts := fun x m c g h => lku (l := tb.cmts) (P := fun (x : Str × Str) (p : Nat × Nat) => [20, 21].contains p.1 = true ∧ mg x.1 = some (.ref (lk 0 [(0, c0), (1, c1), (2, c2), (4, c4), (20, c20), (21, c21)] p.1)) ∧ ∃ mc q, ClX.CRead K (lk 0 [(0, c0), (1, c1), (2, c2), (4, c4), (20, c20), (21, c21)] p.1) mc ∧ ClX.CMet K (lk 0 [(0, c0), (1, c1), (2, c2), (4, c4), (20, c20), (21, c21)] p.1) mc x.2 q (lk 0 [(70, f70), (1, f1), (37, f37), (38, f38), (39, f39), (46, f46), (47, f47), (48, f48), (49, f49), (51, f51), (52, f52), (53, f53), (54, f54), (55, f55), (56, f56), (58, f58), (71, f71), (60, f60), (72, f72), (61, f61), (62, f62), (73, f73), (74, f74), (75, f75), (4, f4), (5, f5), (63, f63), (64, f64), (76, f76), (77, f77), (78, f78), (79, f79), (80, f80)] p.2)) (ac ⟨rfl, PySem.W.mg_of X G ca21, _, _, ⟨cr21, cg21⟩, ⟨cm58, ⟨_, cn58⟩, co58⟩⟩ an) (x, m) (c, g) h
    smts := fun x m c g h => lku (l := tb.smts) (P := fun (x : Str × Str) (p : Nat × Nat) => [20, 21].contains p.1 = true ∧ mg x.1 = some (.ref (lk 0 [(0, c0), (1, c1), (2, c2), (4, c4), (20, c20), (21, c21)] p.1)) ∧ ∃ mc q, ClX.CRead K (lk 0 [(0, c0), (1, c1), (2, c2), (4, c4), (20, c20), (21, c21)] p.1) mc ∧ SMet K (lk 0 [(0, c0), (1, c1), (2, c2), (4, c4), (20, c20), (21, c21)] p.1) mc x.2 q (lk 0 [(70, f70), (1, f1), (37, f37), (38, f38), (39, f39), (46, f46), (47, f47), (48, f48), (49, f49), (51, f51), (52, f52), (53, f53), (54, f54), (55, f55), (56, f56), (58, f58), (71, f71), (60, f60), (72, f72), (61, f61), (62, f62), (73, f73), (74, f74), (75, f75), (4, f4), (5, f5), (63, f63), (64, f64), (76, f76), (77, f77), (78, f78), (79, f79), (80, f80)] p.2)) an (x, m) (c, g) h
    kwd := fun g n ks q h => lku (l := tb.kwd) (P := fun (p : Nat × Nat × List Str) (q : List (Nat ⊕ PyI.D)) => (([47] : List Nat).contains p.1 = true ∧ (∀ d, Sum.inr d ∈ q → isC d = true) ∧ ∃ gU, KBn K (lk (PySem.W.fnOf "law" "law" (defArgs (top 34)) (defBody (top 34)) (defScope (top 34)) .none kV80 dc80 pm80 an80 cd80 ct80) [(47, (PySem.W.fnOf "__init__" "GridMap.__init__" (defArgs (mem (top 16) 1)) (defBody (mem (top 16) 1)) (defScope (mem (top 16) 1)) (.ref ta47) kV47 dc47 pm47 an47 cd47 ct47))] p.1) (lk [] [(47, ["self", "a", "b", "c", "d", "e", "f"])] p.1) p.2.1 p.2.2 gU (gVof q))) an (g, n, ks) q h
    glbs := lku (ac (glb_tup (PySem.W.mg_of X G gg_IDENTITY) gl_IDENTITY (Nat.le_of_ble_eq_true rfl) (vi (vi (vi (vi (vi (vi .nil)))))) fun F => (repL_mk (rep_int (F := F)) (repL_mk (rep_int (F := F)) (repL_mk (rep_int (F := F)) (repL_mk (rep_int (F := F)) (repL_mk (rep_int (F := F)) (repL_mk (rep_int (F := F)) repL_emp))))))) an) }
  have DO : DefsOk (⟨K, fun i => [1, 2, 4].contains i, fun i => [20, 21].contains i, lk 0 [(70, f70), (1, f1), (37, f37), (38, f38), (39, f39), (46, f46), (47, f47), (48, f48), (49, f49), (51, f51), (52, f52), (53, f53), (54, f54), (55, f55), (56, f56), (58, f58), (71, f71), (60, f60), (72, f72), (61, f61), (62, f62), (73, f73), (74, f74), (75, f75), (4, f4), (5, f5), (63, f63), (64, f64), (76, f76), (77, f77), (78, f78), (79, f79), (80, f80)], lk (PySem.W.fnOf "law" "law" (defArgs (top 34)) (defBody (top 34)) (defScope (top 34)) .none kV80 dc80 pm80 an80 cd80 ct80) [(47, (PySem.W.fnOf "__init__" "GridMap.__init__" (defArgs (mem (top 16) 1)) (defBody (mem (top 16) 1)) (defScope (mem (top 16) 1)) (.ref ta47) kV47 dc47 pm47 an47 cd47 ct47))], fun i => ([47] : List Nat).contains i, lk [] [(47, ["self", "a", "b", "c", "d", "e", "f"])], fun i => fidL.contains i, lk 0 [(0, c0), (1, c1), (2, c2), (4, c4), (20, c20), (21, c21)], cfT, fnmT⟩ : Sta) tb defs := ⟨oks, (ac ⟨_, ⟨_, _, _, _, _, _, _, _, _, _, rfl, l70, q70, .inl ⟨rfl, bo70⟩⟩⟩ (ac ⟨_, ⟨_, _, _, _, _, _, _, _, _, _, rfl, l1, q1, .inl ⟨rfl, bo1⟩⟩⟩ (ac ⟨_, ⟨_, _, _, _, _, _, _, _, _, _, rfl, l37, q37, .inl ⟨rfl, bo37⟩⟩⟩ (ac ⟨_, ⟨_, _, _, _, _, _, _, _, _, _, rfl, l38, q38, .inl ⟨rfl, bo38⟩⟩⟩ (ac ⟨_, ⟨_, _, _, _, _, _, _, _, _, _, rfl, l39, q39, .inl ⟨rfl, bo39⟩⟩⟩ (ac ⟨_, ⟨_, _, _, _, _, _, _, _, _, _, rfl, l46, q46, .inl ⟨rfl, bo46⟩⟩⟩ (ac ⟨_, ⟨_, _, _, _, _, _, _, _, _, _, rfl, l47, q47, .inr ⟨rfl, (bind_dfl (d := d47) 7 2 lt47 rfl rfl (fun us hl => match us, hl with | [_, _, _, _, _, _, _], _ => ⟨_, rfl, rfl⟩))⟩⟩⟩ (ac ⟨_, ⟨_, _, _, _, _, _, _, _, _, _, rfl, l48, q48, .inl ⟨rfl, bo48⟩⟩⟩ (ac ⟨_, ⟨_, _, _, _, _, _, _, _, _, _, rfl, l49, q49, .inl ⟨rfl, bo49⟩⟩⟩ (ac ⟨_, ⟨_, _, _, _, _, _, _, _, _, _, rfl, l51, q51, .inl ⟨rfl, bo51⟩⟩⟩ (ac ⟨_, ⟨_, _, _, _, _, _, _, _, _, _, rfl, l52, q52, .inl ⟨rfl, bo52⟩⟩⟩ (ac ⟨_, ⟨_, _, _, _, _, _, _, _, _, _, rfl, l53, q53, .inl ⟨rfl, bo53⟩⟩⟩ (ac ⟨_, ⟨_, _, _, _, _, _, _, _, _, _, rfl, l54, q54, .inl ⟨rfl, bo54⟩⟩⟩ (ac ⟨_, ⟨_, _, _, _, _, _, _, _, _, _, rfl, l55, q55, .inl ⟨rfl, bo55⟩⟩⟩ (ac ⟨_, ⟨_, _, _, _, _, _, _, _, _, _, rfl, l56, q56, .inl ⟨rfl, bo56⟩⟩⟩ (ac ⟨_, ⟨_, _, _, _, _, _, _, _, _, _, rfl, l58, q58, .inl ⟨rfl, bo58⟩⟩⟩ (ac ⟨_, ⟨_, _, _, _, _, _, _, _, _, _, rfl, l71, q71, .inl ⟨rfl, bo71⟩⟩⟩ (ac ⟨_, ⟨_, _, _, _, _, _, _, _, _, _, rfl, l60, q60, .inl ⟨rfl, bo60⟩⟩⟩ (ac ⟨_, ⟨_, _, _, _, _, _, _, _, _, _, rfl, l72, q72, .inl ⟨rfl, bo72⟩⟩⟩ (ac ⟨_, ⟨_, _, _, _, _, _, _, _, _, _, rfl, l61, q61, .inl ⟨rfl, bo61⟩⟩⟩ (ac ⟨_, ⟨_, _, _, _, _, _, _, _, _, _, rfl, l62, q62, .inl ⟨rfl, bo62⟩⟩⟩ (ac ⟨_, ⟨_, _, _, _, _, _, _, _, _, _, rfl, l73, q73, .inl ⟨rfl, bo73⟩⟩⟩ (ac ⟨_, ⟨_, _, _, _, _, _, _, _, _, _, rfl, l74, q74, .inl ⟨rfl, bo74⟩⟩⟩ (ac ⟨_, ⟨_, _, _, _, _, _, _, _, _, _, rfl, l75, q75, .inl ⟨rfl, bo75⟩⟩⟩ (ac ⟨_, ⟨_, _, _, _, _, _, _, _, _, _, rfl, l4, q4, .inl ⟨rfl, bo4⟩⟩⟩ (ac ⟨_, ⟨_, _, _, _, _, _, _, _, _, _, rfl, l5, q5, .inl ⟨rfl, bo5⟩⟩⟩ (ac ⟨_, ⟨_, _, _, _, _, _, _, _, _, _, rfl, l63, q63, .inl ⟨rfl, bo63⟩⟩⟩ (ac ⟨_, ⟨_, _, _, _, _, _, _, _, _, _, rfl, l64, q64, .inl ⟨rfl, bo64⟩⟩⟩ (ac ⟨_, ⟨_, _, _, _, _, _, _, _, _, _, rfl, l76, q76, .inl ⟨rfl, bo76⟩⟩⟩ (ac ⟨_, ⟨_, _, _, _, _, _, _, _, _, _, rfl, l77, q77, .inl ⟨rfl, bo77⟩⟩⟩ (ac ⟨_, ⟨_, _, _, _, _, _, _, _, _, _, rfl, l78, q78, .inl ⟨rfl, bo78⟩⟩⟩ (ac ⟨_, ⟨_, _, _, _, _, _, _, _, _, _, rfl, l79, q79, .inl ⟨rfl, bo79⟩⟩⟩ (ac ⟨_, ⟨_, _, _, _, _, _, _, _, _, _, rfl, l80, q80, .inl ⟨rfl, bo80⟩⟩⟩ an))))))))))))))))))))))))))))))))), (ac (no rfl) (ac (no rfl) (ac (no rfl) (ac (no rfl) (ac (no rfl) (ac (no rfl) (ac (yes ⟨rfl, ⟨_, _, _, _, _, _, _, _, _, _, rfl, l47, q47, .inr ⟨rfl, (bind_dfl (d := d47) 7 2 lt47 rfl rfl (fun us hl => match us, hl with | [_, _, _, _, _, _, _], _ => ⟨_, rfl, rfl⟩))⟩⟩, rfl⟩) (ac (no rfl) (ac (no rfl) (ac (no rfl) (ac (no rfl) (ac (no rfl) (ac (no rfl) (ac (no rfl) (ac (no rfl) (ac (no rfl) (ac (no rfl) (ac (no rfl) (ac (no rfl) (ac (no rfl) (ac (no rfl) (ac (no rfl) (ac (no rfl) (ac (no rfl) (ac (no rfl) (ac (no rfl) (ac (no rfl) (ac (no rfl) (ac (no rfl) (ac (no rfl) (ac (no rfl) (ac (no rfl) (ac (no rfl) an)))))))))))))))))))))))))))))))))⟩
  exact def_fix ok80 TF (all_ok TF DO 20) ⟨_, _, _, _, _, _, _, _, _, _, rfl, l80, q80, .inl ⟨rfl, bo80⟩⟩ rfl
end KK

open PySem PySem.W PyProof.Rows
set_option maxRecDepth 100000 in
set_option maxHeartbeats 0 in
theorem PySem.Challenge.cw_latticeshapes_k07_whole_maps_composed_holds : PySem.Challenge.rw_latticeshapes_k07_whole_maps_composed.Holds := by
  w_on; o_law; k_head; (case hw => w_witness2)
  k_fill
  refine PyI.walk_up (l := PySem.Challenge.rw_latticeshapes_k07_whole_maps_composed) (n := 63) (k := 42) (x := "_law_script") (C := PyI.callD KK.T 20) (G := KK.F80) rfl (by decide) rfl ⟨rfl, by decide, by decide⟩ (fun w h Y => PySem.W.kIn_of Y) ?F KK.law_true
  case F =>
    intro w mg fa h KX G hmg
    refine' KK.all_mk KX G hmg ?ca0 ?ca1 ?ca2 ?ca4 ?ca20 ?ca21 ?a70 ?a1 ?a37 ?a38 ?a39 ?a71 ?a60 ?a72 ?a61 ?a62 ?a73 ?a74 ?a75 ?a4 ?a5 ?a63 ?a64 ?a76 ?a77 ?a78 ?a79 ?a80 ?C20 ?C21 ?m46_20 ?n46 ?mk20 ?kc20 ?m47_21 ?n47 ?mk21 ?kc21 ?m53_21 ?n53 ?m55_21 ?n55 ?m56_21 ?n56 ?m54_21 ?n54 ?pa49_21 ?pb49_21 ?pc49_21 ?pd49_21 ?pa48_21 ?pb48_21 ?pc48_21 ?pd48_21 ?m51_21 ?m52_21 ?n51 ?ne21 ?n52 ?s20_21 ?s21_20 ?cm58 ?cn58 ?co58 ?na20_7 ?na21_7 ?na20_8 ?na21_8 ?l70 ?q70 ?k70 ?l1 ?q1 ?k1 ?l37 ?q37 ?k37 ?l38 ?q38 ?k38 ?l39 ?q39 ?k39 ?l46 ?q46 ?k46 ?l47 ?q47 ?k47 ?lt47 ?l48 ?q48 ?k48 ?l49 ?q49 ?k49 ?l51 ?q51 ?k51 ?l52 ?q52 ?k52 ?l53 ?q53 ?k53 ?l54 ?q54 ?k54 ?l55 ?q55 ?k55 ?l56 ?q56 ?k56 ?l58 ?q58 ?k58 ?l71 ?q71 ?k71 ?l60 ?q60 ?k60 ?l72 ?q72 ?k72 ?l61 ?q61 ?k61 ?l62 ?q62 ?k62 ?l73 ?q73 ?k73 ?l74 ?q74 ?k74 ?l75 ?q75 ?k75 ?l4 ?q4 ?k4 ?l5 ?q5 ?k5 ?l63 ?q63 ?k63 ?l64 ?q64 ?k64 ?l76 ?q76 ?k76 ?l77 ?q77 ?k77 ?l78 ?q78 ?k78 ?l79 ?q79 ?k79 ?l80 ?q80 ?k80 ?cr21 ?cg21 ?gg_IDENTITY ?gl_IDENTITY ?z0 ?z1 ?z2 ?z3 ?z4 ?z5 ?z6 ?z7 ?z8 ?z9 ?z10 ?z11 ?z12 ?z13 ?z14 ?z15 ?z16 ?z17 ?z18 ?z19 ?z20 ?xe1 ?xk1 ?xe2 ?xk2 ?xe4 ?xk4 ?xs1 ?xt1 ?xi1 ?xs2 ?xt2 ?xi2 ?xs4 ?xt4 ?xi4 ?xm1_1 ?xm1_2 ?xm1_4 ?xm4_1 ?xm4_2 ?xm4_4
    (case ca0 => k_is); (case ca1 => k_is); (case ca2 => k_is); (case ca4 => k_is); (case ca20 => k_is); (case ca21 => k_is); (case a70 => k_is); (case a1 => k_is); (case a37 => k_is); (case a38 => k_is); (case a39 => k_is); (case a71 => k_is); (case a60 => k_is); (case a72 => k_is); (case a61 => k_is); (case a62 => k_is); (case a73 => k_is); (case a74 => k_is); (case a75 => k_is); (case a4 => k_is); (case a5 => k_is); (case a63 => k_is); (case a64 => k_is); (case a76 => k_is); (case a77 => k_is); (case a78 => k_is); (case a79 => k_is); (case a80 => k_is); (case m46_20 => k_is); (case m47_21 => k_is); (case m53_21 => k_is); (case m55_21 => k_is); (case m56_21 => k_is); (case m54_21 => k_is); (case pa49_21 => k_is); (case pd49_21 => k_is); (case pa48_21 => k_is); (case pd48_21 => k_is); (case m51_21 => k_is); (case m52_21 => k_is); (case cm58 => k_is); (case cn58 => k_is); (case l70 => k_is); (case l1 => k_is); (case l37 => k_is); (case l38 => k_is); (case l39 => k_is); (case l46 => k_is); (case l47 => k_is); (case lt47 => k_is); (case l48 => k_is); (case l49 => k_is); (case l51 => k_is); (case l52 => k_is); (case l53 => k_is); (case l54 => k_is); (case l55 => k_is); (case l56 => k_is); (case l58 => k_is); (case l71 => k_is); (case l60 => k_is); (case l72 => k_is); (case l61 => k_is); (case l62 => k_is); (case l73 => k_is); (case l74 => k_is); (case l75 => k_is); (case l4 => k_is); (case l5 => k_is); (case l63 => k_is); (case l64 => k_is); (case l76 => k_is); (case l77 => k_is); (case l78 => k_is); (case l79 => k_is); (case l80 => k_is); (case gg_IDENTITY => k_is); (case gl_IDENTITY => k_is); (case C20 => constructor <;> k_is); (case C21 => constructor <;> k_is); (case n46 => k_is); (case mk20 => k_is); (case kc20 => k_is); (case n47 => k_is); (case mk21 => k_is); (case kc21 => k_is); (case n53 => k_is); (case n55 => k_is); (case n56 => k_is); (case n54 => k_is); (case pb49_21 => k_is); (case pc49_21 => k_is); (case pb48_21 => k_is); (case pc48_21 => k_is); (case n51 => k_is); (case ne21 => k_is); (case n52 => k_is); (case s20_21 => first | rfl | k_is); (case s21_20 => first | rfl | k_is); (case co58 => k_is); (case na20_7 => k_is); (case na21_7 => k_is); (case na20_8 => k_is); (case na21_8 => k_is); (case q70 => k_is); (case k70 => k_is); (case q1 => k_is); (case k1 => k_is); (case q37 => k_is); (case k37 => k_is); (case q38 => k_is); (case k38 => k_is); (case q39 => k_is); (case k39 => k_is); (case q46 => k_is); (case k46 => k_is); (case q47 => k_is); (case k47 => k_is); (case q48 => k_is); (case k48 => k_is); (case q49 => k_is); (case k49 => k_is); (case q51 => k_is); (case k51 => k_is); (case q52 => k_is); (case k52 => k_is); (case q53 => k_is); (case k53 => k_is); (case q54 => k_is); (case k54 => k_is); (case q55 => k_is); (case k55 => k_is); (case q56 => k_is); (case k56 => k_is); (case q58 => k_is); (case k58 => k_is); (case q71 => k_is); (case k71 => k_is); (case q60 => k_is); (case k60 => k_is); (case q72 => k_is); (case k72 => k_is); (case q61 => k_is); (case k61 => k_is); (case q62 => k_is); (case k62 => k_is); (case q73 => k_is); (case k73 => k_is); (case q74 => k_is); (case k74 => k_is); (case q75 => k_is); (case k75 => k_is); (case q4 => k_is); (case k4 => k_is); (case q5 => k_is); (case k5 => k_is); (case q63 => k_is); (case k63 => k_is); (case q64 => k_is); (case k64 => k_is); (case q76 => k_is); (case k76 => k_is); (case q77 => k_is); (case k77 => k_is); (case q78 => k_is); (case k78 => k_is); (case q79 => k_is); (case k79 => k_is); (case q80 => k_is); (case k80 => k_is); (case cr21 => k_is); (case cg21 => k_is); (case z0 => k_is); (case z1 => k_is); (case z2 => k_is); (case z3 => k_is); (case z4 => k_is); (case z5 => k_is); (case z6 => k_is); (case z7 => k_is); (case z8 => k_is); (case z9 => k_is); (case z10 => k_is); (case z11 => k_is); (case z12 => k_is); (case z13 => k_is); (case z14 => k_is); (case z15 => k_is); (case z16 => k_is); (case z17 => k_is); (case z18 => k_is); (case z19 => k_is); (case z20 => k_is); (case xe1 => k_exc); (case xk1 => k_is); (case xe2 => k_exc); (case xk2 => k_is); (case xe4 => k_exc); (case xk4 => k_is); (case xs1 => k_is); (case xt1 => k_is); (case xi1 => k_is); (case xs2 => k_is); (case xt2 => k_is); (case xi2 => k_is); (case xs4 => k_is); (case xt4 => k_is); (case xi4 => k_is); (case xm1_1 => first | rfl | k_is); (case xm1_2 => first | rfl | k_is); (case xm1_4 => first | rfl | k_is); (case xm4_1 => first | rfl | k_is); (case xm4_2 => first | rfl | k_is); (case xm4_4 => first | rfl | k_is)

